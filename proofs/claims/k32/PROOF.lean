import PyProof.Rows.All
import Wide.All
import OpenK.AllK
import Wide.FinOn
import PyProof.EqAt
import PyProof.EqKinds
import PyProof.TupleCall
import KE.BitLaws
import KE.KDictSum
import PyProof.Rows.SortRev
import PySem.Challenge.RW_bandorder_k32_stairs
set_option Elab.async false
set_option linter.all false
set_option maxRecDepth 100000
namespace L2
open PySem PySem.Spec PyProof.Rows
abbrev Key := Sum Int Str
def keyIs : Key → Value → Bool
  | .inl k, v => Value.isInt k v
  | .inr x, v => Value.isStrOf x v
def keyH (w : World) : Key → Int
  | .inl k => hashInt k
  | .inr x => hashStr w x
theorem keyIs_shape : ∀ {k : Key} {v : Value}, keyIs k v = true → (∃ i t, k = Sum.inl i ∧ v = Value.int i t) ∨ (∃ x t, k = Sum.inr x ∧ v = Value.str x t)
  | .inl i, v, h => by
    obtain ⟨t, e⟩ := Value.isInt_shape (k := i) (v := v) h
    exact .inl ⟨i, t, rfl, e⟩
  | .inr x, v, h => by
    obtain ⟨t, e⟩ := Value.isStrOf_shape (x := x) (v := v) h
    exact .inr ⟨x, t, rfl, e⟩
theorem key_ll (a b : Int) : decide ((Sum.inl a : Key) = Sum.inl b) = (a == b) := by
  by_cases e : a = b
  · subst e; simp
  · have h : ¬ (Sum.inl a : Key) = Sum.inl b := fun q => e (Sum.inl.inj q)
    rw [decide_eq_false h]
    exact (beq_eq_false_iff_ne.mpr e).symm
theorem key_rr (a b : Str) : decide ((Sum.inr a : Key) = Sum.inr b) = decide (a = b) := by
  by_cases e : a = b
  · subst e; simp
  · have h : ¬ (Sum.inr a : Key) = Sum.inr b := fun q => e (Sum.inr.inj q)
    rw [decide_eq_false h, decide_eq_false e]
theorem key_lr (a : Int) (b : Str) : decide ((Sum.inl a : Key) = Sum.inr b) = false := decide_eq_false (fun q => nomatch q)
theorem key_rl (a : Str) (b : Int) : decide ((Sum.inr a : Key) = Sum.inl b) = false := decide_eq_false (fun q => nomatch q)
def mixKind (prog : Program) (w : World) : PySem.KeyKind prog w Key where
  is := keyIs
  hash := keyH w
  inj := fun v a b ha hb => by
    rcases keyIs_shape ha with ⟨i, t, rfl, rfl⟩ | ⟨x, t, rfl, rfl⟩
    · rcases keyIs_shape hb with ⟨j, u, rfl, e⟩ | ⟨y, u, rfl, e⟩
      · injection e with e1 _; rw [e1]
      · exact nomatch e
    · rcases keyIs_shape hb with ⟨j, u, rfl, e⟩ | ⟨y, u, rfl, e⟩
      · exact nomatch e
      · injection e with e1 _; rw [e1]
  byValue := fun k v h => by
    rcases keyIs_shape h with ⟨i, t, rfl, rfl⟩ | ⟨x, t, rfl, rfl⟩ <;> rfl
  pyHash := fun hv h => by
    rcases keyIs_shape hv with ⟨i, t, rfl, rfl⟩ | ⟨x, t, rfl, rfl⟩
    · exact wpAny_pyHash_int h
    · exact wpAny_pyHash_str h
  eqBool := fun hu hv h => by
    rcases keyIs_shape hu with ⟨i, t, rfl, rfl⟩ | ⟨x, t, rfl, rfl⟩
    · rcases keyIs_shape hv with ⟨j, u, rfl, rfl⟩ | ⟨y, u, rfl, rfl⟩
      · rw [key_ll] at h; exact wpAny_eqBool_int h
      · rw [key_lr] at h; exact SeqAt.EqAt.int_str i t y u _ _ _ _ h
    · rcases keyIs_shape hv with ⟨j, u, rfl, rfl⟩ | ⟨y, u, rfl, rfl⟩
      · rw [key_rl] at h; exact SeqAt.EqAt.str_int x t j u _ _ _ _ h
      · rw [key_rr] at h; exact wpAny_eqBool_str h
  «strs» := fun k x t v h => by
    rcases keyIs_shape h with ⟨i, u, rfl, e⟩ | ⟨y, u, rfl, e⟩
    · exact nomatch e
    · injection e with e1 _
      subst e1
      cases v <;> rfl
end L2
namespace L2
open PySem PySem.Spec PyProof.Rows
inductive V where
  | non | bl (b : Bool) | int (i : Int) | str (x : Str) | byt (b : Array UInt8) | flt (b : UInt64) | ref (a : Addr) | ty (n : String)
  deriving DecidableEq
def RelV : V → Value → Prop
  | .non, u => u = Value.none
  | .bl b, u => u = Value.bool b
  | .int i, u => ∃ t, u = Value.int i t
  | .str x, u => ∃ t, u = Value.str x t
  | .byt b, u => ∃ t, u = Value.bytes b t
  | .flt b, u => ∃ t, u = Value.float b t
  | .ref a, u => u = Value.ref a
  | .ty n, u => u = Value.type n
abbrev Vals : List V → List Value → Prop := Paired RelV
theorem Vals.length {xs : List V} {us : List Value} (r : Vals xs us) : xs.length = us.length := Paired.length r
theorem Vals.get : ∀ {xs : List V} {us : List Value} {i : Nat} {x : V}, Vals xs us → xs[i]? = some x → ∃ u, us[i]? = some u ∧ RelV x u
  | _, _, _, _, .nil, e => by simp at e
  | _, _, 0, _, .cons r _, e => by simp at e; subst e; exact ⟨_, rfl, r⟩
  | _, _, i + 1, x, .cons _ t, e => by
    obtain ⟨u, h1, h2⟩ := Vals.get (i := i) (x := x) t (by simpa using e)
    exact ⟨u, by simpa using h1, h2⟩
theorem Vals.set {x : V} {u : Value} (r : RelV x u) : ∀ {xs : List V} {us : List Value} (i : Nat), Vals xs us → Vals (xs.set i x) (us.set i u)
  | _, _, _, .nil => .nil
  | _, _, 0, .cons _ t => .cons r t
  | _, _, i + 1, .cons q t => .cons q (Vals.set r i t)
theorem Vals.append : ∀ {xs ys : List V} {us ws : List Value}, Vals xs us → Vals ys ws → Vals (xs ++ ys) (us ++ ws)
  | _, _, _, _, .nil, s => s
  | _, _, _, _, .cons r t, s => .cons r (Vals.append t s)
theorem Vals.take : ∀ {xs : List V} {us : List Value} (n : Nat), Vals xs us → Vals (xs.take n) (us.take n)
  | _, _, 0, _ => .nil
  | _, _, _ + 1, .nil => .nil
  | _, _, n + 1, .cons r t => .cons r (Vals.take n t)
theorem Vals.drop : ∀ {xs : List V} {us : List Value} (n : Nat), Vals xs us → Vals (xs.drop n) (us.drop n)
  | _, _, 0, r => r
  | _, _, _ + 1, .nil => .nil
  | _, _, n + 1, .cons _ t => Vals.drop n t
def RelO : Option V → Option Value → Prop
  | some v, some u => RelV v u
  | none, none => True
  | _, _ => False
def KV {κ : Type} : List (κ × V) → List (κ × Value) → Prop := Paired fun (p : κ × V) (q : κ × Value) => p.1 = q.1 ∧ RelV p.2 q.2
def kV : Key → V
  | .inl i => .int i
  | .inr x => .str x
inductive HO where
  /-- a list -/
  | lst (xs : List V)
  /-- a tuple (never changes) -/
  | tup (xs : List V)
  /-- a dict whose keys are ints and texts; one whose keys are tuples of ints and texts (the empty one is both) -/
  | dK (kvs : List (Key × V)) | dT (kvs : List (List Key × V))
  /-- a set of ints: its members, its size -/
  | set (S : Int → Bool) (n : Nat)
  /-- an instance of the class at C, its dict at dx, its attributes -/
  | ins (C dx : Addr) (fs : List (Str × V))
  /-- the dict of the instance at x -/
  | own (x : Addr)
  /-- the dict of an exception -/
  | xd (fs : List (Str × V))
  /-- a bound method, f of x -/
  | met (f x : Addr)
  /-- a range object lo, lo + 1, .. below hi -/
  | rng (lo hi : Int)
  /-- a thing that is known to the object (the script; a dict while a loop walks it): read, never written while it is so -/
  | frz (o : Obj) (u : HO)
  /-- a code object's table -/
  | tbl (ps : Array Value)
  /-- any other thing, by what is true of its one object (a def of one's own: SetO a S n := HO.ext fun h => ..) -/
  | ext (φ : Heap → Prop)
abbrev Hp := Addr → Option HO
def upd (H : Hp) (a : Addr) (o : HO) : Hp := fun b => if b = a then some o else H b
theorem upd_same {H : Hp} {a : Addr} {o : HO} : upd H a o a = some o := by unfold upd; rw [if_pos rfl]
theorem upd_ne {H : Hp} {a b : Addr} {o : HO} (h : b ≠ a) : upd H a o b = H b := by unfold upd; rw [if_neg h]
theorem ne_of_none {H : Hp} {a b : Addr} {o : HO} (h : H a = some o) (h' : H b = none) : a ≠ b := by
  intro e; subst e; rw [h] at h'; cases h'
section
variable (P : Program) (w : World)
def ObjOk (H : Hp) (h : Heap) (a : Addr) : HO → Prop
  | .lst xs => xs.length ≤ sizeLine ∧ ∃ (its : List Value) (n : Nat), Vals xs its ∧ h.get? a = some { cls := .type "list", data := .seq its.toArray n }
  | .tup xs => xs.length ≤ sizeLine ∧ ∃ its : List Value, Vals xs its ∧ IsTup h a its.toArray
  | .dK kvs => kvs.length ≤ sizeLine ∧ (a == sysModules) = false ∧ ∃ vs, KV kvs vs ∧ h.DictOf (mixKind P w) a vs
  | .dT kvs => kvs.length ≤ sizeLine ∧ (a == sysModules) = false ∧ ∃ xs : List (List Key × Addr × Value),
      Paired (fun (p : List Key × V) (q : List Key × Addr × Value) => p.1 = q.1 ∧ H q.2.1 = some (.tup (p.1.map kV)) ∧ RelV p.2 q.2.2) kvs xs ∧
      ∃ o es ep, h.get? a = some o ∧ o.ExactDict ∧ o.data = .dict es ep ∧ es.toList = xs.map (entryOfKey (tupleKind (mixKind P w))) ∧ (xs.map (·.1)).Nodup
  | .set S n => h.SetOf (intKind P w) a S n
  | .ins C dx fs => H dx = some (.own a) ∧ fs.length ≤ 1000 ∧ dx ≠ a ∧ h.get? a = some (PySem.W.instObj C dx) ∧
      ∃ mA, h.Ns1 dx mA ∧ (∀ f, RelO (fs.lookup f) (mA f)) ∧ PySem.Within mA (fs.map (·.1))
  | .own _ => ∃ o, h.get? a = some o
  | .xd fs => ∃ mA, h.Ns1 a mA ∧ ∀ f, RelO (fs.lookup f) (mA f)
  | .rng lo hi => ∃ t u v, h.get? a = some { cls := .type "range", data := .fields #[.int lo t, .int hi u, .int 1 v] }
  | .frz o u => h.get? a = some o ∧ ObjOk H h a u
  | .tbl ps => h.get? a = some { cls := .none, data := .fields ps }
  | .met f x => h.get? a = some (PySem.W.methodObj (.ref f) (.ref x))
  | .ext φ => φ h ∧ (∃ o, h.get? a = some o) ∧ ∀ h1 h2 : Heap, φ h1 → (∀ o, h1.get? a = some o → h2.get? a = some o) → φ h2
def HOk (H : Hp) (h : Heap) : Prop := ∀ a o, H a = some o → ObjOk P w H h a o
end
section
variable {P : Program} {w : World} {H H' : Hp} {h h' : Heap} {a : Addr} {o : HO}
theorem ObjOk.lt (x : ObjOk P w H h a o) : a < h.objs.size := by
  cases o with
  | lst xs => obtain ⟨_, _, _, _, e⟩ := x; exact Heap.lt_size e
  | tup xs => obtain ⟨_, _, _, p⟩ := x; exact p.lt
  | dK kvs => obtain ⟨_, _, _, _, o, _, _, e, _⟩ := x; exact Heap.lt_size e
  | dT kvs => obtain ⟨_, _, _, _, o, _, _, e, _⟩ := x; exact Heap.lt_size e
  | set S n => obtain ⟨o, _, _, _, e, _⟩ := x; exact Heap.lt_size e
  | ins C dx fs => obtain ⟨_, _, _, e, _⟩ := x; exact Heap.lt_size e
  | own y => obtain ⟨_, e⟩ := x; exact Heap.lt_size e
  | xd fs => obtain ⟨_, ⟨_, _, _, e, _⟩, _⟩ := x; exact Heap.lt_size e
  | rng lo hi => obtain ⟨_, _, _, e⟩ := x; exact Heap.lt_size e
  | frz ob u => obtain ⟨e, _⟩ := x; exact Heap.lt_size e
  | tbl ps => exact Heap.lt_size (show h.get? a = some _ from x)
  | met f y => exact Heap.lt_size (show h.get? a = some _ from x)
  | ext φ => obtain ⟨_, ⟨_, e⟩, _⟩ := x; exact Heap.lt_size e
theorem Paired.mapP {α β : Type} {F G : α → β → Prop} : ∀ {l₁ : List α} {l₂ : List β}, Paired F l₁ l₂ → (∀ a b, F a b → G a b) → Paired G l₁ l₂
  | _, _, .nil, _ => .nil
  | _, _, .cons r t, f => .cons (f _ _ r) (Paired.mapP t f)
theorem ObjOk.stay (x : ObjOk P w H h a o) (k : ∀ b u, (b = a ∨ H b = some (.own a)) → h.get? b = some u → h'.get? b = some u)
    (ho : ∀ b, H b = some (.own a) → H' b = some (.own a)) (ht : ∀ b xs, H b = some (.tup xs) → H' b = some (.tup xs)) : ObjOk P w H' h' a o := by
  induction o with
  | lst xs => obtain ⟨z, its, n, r, e⟩ := x; exact ⟨z, its, n, r, k _ _ (.inl rfl) e⟩
  | tup xs => obtain ⟨z, its, r, ob, e, c⟩ := x; exact ⟨z, its, r, ob, k _ _ (.inl rfl) e, c⟩
  | dK kvs => obtain ⟨z, y, vs, r, ob, es, ep, e, c⟩ := x; exact ⟨z, y, vs, r, ob, es, ep, k _ _ (.inl rfl) e, c⟩
  | dT kvs =>
    obtain ⟨z, y, xs, r, ob, es, ep, e, c⟩ := x
    exact ⟨z, y, xs, Paired.mapP r fun p q z => ⟨z.1, ht _ _ z.2.1, z.2.2⟩, ob, es, ep, k _ _ (.inl rfl) e, c⟩
  | set S n => obtain ⟨ob, es, ep, t, e, c⟩ := x; exact ⟨ob, es, ep, t, k _ _ (.inl rfl) e, c⟩
  | ins C dx fs =>
    obtain ⟨d, z, ne, e, mA, ⟨od, es, ep, e2, c⟩, r⟩ := x
    exact ⟨ho _ d, z, ne, k _ _ (.inl rfl) e, mA, ⟨od, es, ep, k _ _ (.inr d) e2, c⟩, r⟩
  | own y => obtain ⟨ob, e⟩ := x; exact ⟨ob, k _ _ (.inl rfl) e⟩
  | xd fs => obtain ⟨mA, ⟨od, es, ep, e, c⟩, r⟩ := x; exact ⟨mA, ⟨od, es, ep, k _ _ (.inl rfl) e, c⟩, r⟩
  | rng lo hi => obtain ⟨t, u, v, e⟩ := x; exact ⟨t, u, v, k _ _ (.inl rfl) e⟩
  | frz ob u ih => obtain ⟨e, q⟩ := x; exact ⟨k _ _ (.inl rfl) e, ih q⟩
  | tbl ps =>
    have e : h.get? a = some { cls := .none, data := .fields ps } := x
    show h'.get? a = some { cls := .none, data := .fields ps }
    exact k a _ (.inl rfl) e
  | met f y =>
    have e : h.get? a = some (PySem.W.methodObj (.ref f) (.ref y)) := x
    show h'.get? a = some (PySem.W.methodObj (.ref f) (.ref y))
    exact k a _ (.inl rfl) e
  | ext φ => obtain ⟨p, ⟨o, e⟩, st⟩ := x; exact ⟨st _ _ p fun o q => k _ _ (.inl rfl) q, ⟨o, k _ _ (.inl rfl) e⟩, st⟩
theorem HOk.lt (x : HOk P w H h) (e : H a = some o) : a < h.objs.size := (x a o e).lt
theorem HOk.fresh (x : HOk P w H h) (e : h.objs.size ≤ a) : H a = none := by
  cases q : H a with
  | none => rfl
  | some u => exact absurd (Nat.lt_of_lt_of_le (x.lt q) e) (Nat.lt_irrefl _)
theorem HOk.kept (x : HOk P w H h) (k : ∀ b u, h.get? b = some u → h'.get? b = some u) : HOk P w H h' := fun a o e =>
  (x a o e).stay (fun b u _ q => k b u q) (fun _ q => q) fun _ _ q => q
end
def Rd (H : Hp) (a : Addr) (u : HO) : Prop := H a = some u ∨ ∃ o, H a = some (.frz o u)
theorem Rd.of {H : Hp} {a : Addr} {u : HO} (h : H a = some u) : Rd H a u := .inl h
theorem Rd.ok {P : Program} {w : World} {H : Hp} {h : Heap} {a : Addr} {u : HO} (r : Rd H a u) (x : HOk P w H h) : ObjOk P w H h a u := by
  rcases r with r | ⟨o, r⟩
  · exact x a u r
  · obtain ⟨_, q⟩ := x a _ r
    exact q
def Mut : Option HO → Prop
  | some (.lst _) => True
  | some (.dK _) => True
  | some (.dT _) => True
  | some (.set _ _) => True
  | some (.ins _ _ _) => True
  | some (.ext _) => True
  | _ => False
section
variable {P : Program} {w : World} {H : Hp} {h h' : Heap} {x e : Addr} {o' : HO}
theorem HOk.write (ok : HOk P w H h) (mu : Mut (H x)) (he : e = x ∨ H e = some (.own x)) (k : ∀ b u, b ≠ e → h.get? b = some u → h'.get? b = some u) (heo : ∃ u, h'.get? e = some u)
    (new : ObjOk P w (upd H x o') h' x o') : HOk P w (upd H x o') h' := fun b u q => by
  have nown : ∀ c y, H c = some (.own y) → c ≠ x := fun c y r z => by subst z; rw [r] at mu; exact mu
  have ntup : ∀ c xs, H c = some (.tup xs) → c ≠ x := fun c xs r z => by subst z; rw [r] at mu; exact mu
  by_cases hb : b = x
  · subst hb; rw [upd_same] at q; cases q; exact new
  · rw [upd_ne hb] at q
    by_cases hbe : b = e
    · have q' : H b = some (.own x) := by
        rcases he with z | z
        · exact absurd (hbe.trans z) hb
        · rw [hbe]; exact z
      rw [q] at q'; cases q'
      obtain ⟨v, hv⟩ := heo
      exact ⟨v, by rw [hbe]; exact hv⟩
    · refine (ok b u q).stay (fun c v hc r => k c v ?_ r) (fun c r => by rw [upd_ne (nown c b r)]; exact r) fun c xs r => by rw [upd_ne (ntup c xs r)]; exact r
      rcases hc with rfl | hc
      · exact hbe
      · rintro rfl
        rcases he with z | z
        · exact nown c b hc z
        · rw [hc] at z; cases z; exact hb rfl
end
structure Un (fs ex : List Addr) (H H' : Hp) (h h' : Heap) : Prop where
  keep : ∀ b o, h.get? b = some o → H b = none → b ∉ fs → b ∉ ex → h'.get? b = some o
  slot : ∀ b o, h.get? b = some o → H b = none → b ∈ fs → b ∉ ex → ∃ sl, h'.get? b = some { o with slots := sl }
  free : ∀ b o, h.get? b = some o → H b = none → b ∉ ex → H' b = none
  there : ∀ b o, h.get? b = some o → b ∉ ex → ∃ o', h'.get? b = some o'
  tups : ∀ b xs, H b = some (.tup xs) → H' b = some (.tup xs)
  frzs : ∀ b o u, H b = some (.frz o u) → H' b = some (.frz o u)
  tbls : ∀ b ps, H b = some (.tbl ps) → ∃ more, H' b = some (.tbl (ps ++ more))
section
variable {fs fs' ex ex' : List Addr} {H H1 H2 : Hp} {h h1 h2 h' : Heap} {a x e : Addr} {o : HO}
theorem Un.any (u : Un fs ex H H1 h h1) {b : Addr} {ob : Obj} (q : h.get? b = some ob) (n : H b = none) (hx : b ∉ ex) : ∃ sl, h1.get? b = some { ob with slots := sl } := by
  by_cases hb : b ∈ fs
  · exact u.slot b ob q n hb hx
  · exact ⟨ob.slots, u.keep b ob q n hb hx⟩
theorem Un.trans (a : Un fs ex H H1 h h1) (b : Un fs ex H1 H2 h1 h2) : Un fs ex H H2 h h2 where
  keep := fun c ob q n hc hx => b.keep c ob (a.keep c ob q n hc hx) (a.free c ob q n hx) hc hx
  slot := fun c ob q n hc hx => by
    obtain ⟨sl, e1⟩ := a.slot c ob q n hc hx
    obtain ⟨sl', e2⟩ := b.slot c _ e1 (a.free c ob q n hx) hc hx
    exact ⟨sl', e2⟩
  free := fun c ob q n hx => by
    obtain ⟨o', e1⟩ := a.there c ob q hx
    exact b.free c o' e1 (a.free c ob q n hx) hx
  there := fun c ob q hx => by
    obtain ⟨o', e1⟩ := a.there c ob q hx
    exact b.there c o' e1 hx
  tups := fun c xs q => b.tups c xs (a.tups c xs q)
  frzs := fun c ob xs q => b.frzs c ob xs (a.frzs c ob xs q)
  tbls := fun c ps q => by
    obtain ⟨m1, e1⟩ := a.tbls c ps q
    obtain ⟨m2, e2⟩ := b.tbls c _ e1
    exact ⟨m1 ++ m2, by rw [e2, Array.append_assoc]⟩
theorem Un.kept (k : ∀ b u, h.get? b = some u → h'.get? b = some u) : Un fs ex H H h h' :=
  ⟨fun b ob q _ _ _ => k b ob q, fun b ob q _ _ _ => ⟨ob.slots, k b ob q⟩, fun _ _ _ n _ => n, fun b ob q _ => ⟨ob, k b ob q⟩, fun _ _ q => q, fun _ _ _ q => q, fun _ ps q => ⟨#[], by rw [q]; simp⟩⟩
theorem Un.refl : Un fs ex H H h h := Un.kept fun _ _ q => q
theorem Un.write (mu : Mut (H x)) (he : e = x ∨ H e = some (.own x)) (k : ∀ b u, b ≠ e → h.get? b = some u → h'.get? b = some u) (heo : ∃ u, h'.get? e = some u) : Un fs ex H (upd H x o) h h' := by
  have hx : ∀ b, H b = none → b ≠ x := fun b n z => by subst z; rw [n] at mu; exact mu
  have hb : ∀ b, H b = none → b ≠ e := fun b n z => by
    subst z
    rcases he with r | r
    · exact hx b n r
    · rw [n] at r; cases r
  have hm : ∀ b u, H b = some u → ¬ Mut (some u) → b ≠ x := fun b u q nm z => by subst z; rw [q] at mu; exact nm mu
  refine ⟨fun b u q n _ _ => k b u (hb b n) q, fun b u q n _ _ => ⟨u.slots, k b u (hb b n) q⟩, fun b u q n _ => by rw [upd_ne (hx b n)]; exact n, fun b u q _ => ?_,
    fun b xs q => by rw [upd_ne (hm b _ q fun z => z)]; exact q, fun b u xs q => by rw [upd_ne (hm b _ q fun z => z)]; exact q, fun b ps q => ⟨#[], by rw [upd_ne (hm b _ q fun z => z), q]; simp⟩⟩
  by_cases hbe : b = e
  · subst hbe; exact heo
  · exact ⟨u, k b u hbe q⟩
theorem Un.mono (u : Un fs ex H H1 h h1) (hs : ∀ b ∈ fs, b ∈ fs') (hx : ∀ b ∈ ex, b ∈ ex') : Un fs' ex' H H1 h h1 :=
  ⟨fun b ob q n hb he => u.keep b ob q n (fun z => hb (hs b z)) fun z => he (hx b z), fun _ _ q n _ he => u.any q n fun z => he (hx _ z), fun b ob q n he => u.free b ob q n fun z => he (hx b z), fun b ob q he => u.there b ob q fun z => he (hx b z), u.tups, u.frzs, u.tbls⟩
end
def allNews (g h : Heap) (L : Addr) : List (Addr × Obj) := (List.range h.objs.size).filterMap fun a => if a = L ∨ (g.get? a).isSome = true then none else (h.get? a).map fun o => (a, o)
def rest (g h : Heap) (L d : Addr) : List (Addr × Obj) := (allNews g h L).filter fun p => decide (p.1 ≠ d)
end L2
namespace L2
open PySem PySem.Spec PyProof.Rows
structure Mod (K : PySem.W.Frag) (mg : Str → Option Value) (base : Heap) : Prop where
  kin : K.In base
  glob : base.Ns mainGlobals mg
  blt : ∃ mb, base.Ns builtinsNs mb ∧ ∀ x : Str, x ≠ "__name__" → mb x = bootBuiltins x
  nolimit : base.NoLimit
structure Cx where
  prog : Program
  w : World
  K : PySem.W.Frag
  mg : Str → Option Value
  base : Heap
  A : Around
  N : List Str
  s_0 : Shared
  H_0 : Hp
  env : Env
  outer : List Env
  stack : List Env
  ex : List Addr
  fn : Str → Bool
  calm : Bool
  pn : List (Addr × Obj)
  xe : Value → Shared → Prop
def frs (l : List Env) : List Addr := l.filterMap (·.frame)
abbrev Cx.fs (X : Cx) : List Addr := frs X.outer
def Vis (sc : Scope) (x : Str) : Prop := sc.names.lookup x = some .local ∨ sc.names.lookup x = some .cell ∨ sc.names.lookup x = some .free
def Look (env : Env) (h : Heap) (m : Str → Option Value) (x : Str) (u : Value) : Prop :=
  (env.kindOf x = some .local ∧ m x = some u) ∨ ((env.kindOf x = some .cell ∨ env.kindOf x = some .free) ∧ ∃ c, env.cells.lookup x = some c ∧ h.IsCell c (some u))
structure Cx.Ok (X : Cx) : Prop where
  mod : Mod X.K X.mg X.base
  kind : X.env.scope.kind = .function
  glob : X.env.globals = mainGlobals
  blt : X.env.builtins = builtinsNs
  above : X.s_0.heap.objs.size ≤ X.env.locals
  inj : ∀ x y c, X.env.cells.lookup x = some c → X.env.cells.lookup y = some c → x = y
  has : ∀ x, (X.env.kindOf x = some .cell ∨ X.env.kindOf x = some .free) → ∃ c, X.env.cells.lookup x = some c
  cab : ∀ x c, X.fn x = true → X.env.cells.lookup x = some c → X.s_0.heap.objs.size ≤ c
  hd : X.calm = true → X.A.handled = none
  frames : X.A.frames = some X.stack
  stk : X.stack = X.outer ∨ (X.stack = X.env :: X.outer ∧ X.env.frame = some X.env.locals)
  exf : ∀ b ∈ X.ex, b ≠ X.env.locals ∧ ∀ x c, X.env.cells.lookup x = some c → c ≠ b
  bs : ∀ b o, X.base.get? b = some o → X.s_0.heap.get? b = some o ∧ X.H_0 b = none
  bsz : X.base.objs.size ≤ X.s_0.heap.objs.size
  noex : ∀ b o, X.base.get? b = some o → b ∉ X.ex
  exfs : ∀ b ∈ X.ex, b ∉ X.fs
  funs : X.s_0.heap.FunFrames X.base X.outer
  frf : ∀ b ∈ X.fs, X.H_0 b = none
structure Inv (X : Cx) (pins : List (Addr × Obj)) (σ : List (Option V)) (H : Hp) (s : Shared) : Prop where
  ok : X.Ok
  os : s.os = X.s_0.os
  bare : AllBare s.gens
  base : Un X.fs X.ex X.H_0 H X.s_0.heap s.heap
  loc : ∃ m, s.heap.Ns X.env.locals m ∧ ∀ (i : Nat) (x : Str) (v : V), X.N[i]? = some x → σ[i]? = some (some v) → Vis X.env.scope x → ∃ u, RelV v u ∧ Look X.env s.heap m x u
  cell : ∀ x c, X.env.cells.lookup x = some c → ∃ v, s.heap.IsCell c v
  free : H X.env.locals = none
  freeC : ∀ x c, X.env.cells.lookup x = some c → H c = none
  pin : ∀ p ∈ X.pn ++ pins, s.heap.get? p.1 = some p.2 ∧ H p.1 = none ∧ p.1 ≠ X.env.locals ∧ p.1 ∉ X.fs ∧ ∀ v, p.2.data ≠ .cell v
  hok : HOk X.prog X.w H s.heap
  len : σ.length = X.N.length
section
variable {X : Cx} {pins : List (Addr × Obj)} {σ : List (Option V)} {H H' : Hp} {s : Shared} {h' : Heap}
theorem Cx.Ok.nofr (ok : X.Ok) {b : Addr} {o : Obj} (e : X.base.get? b = some o) : b ∉ X.fs := fun hb => by
  have := (ok.funs.mem hb).1
  rw [e] at this; cases this
theorem Inv.bs (I : Inv X pins σ H s) : ∀ b o, X.base.get? b = some o → s.heap.get? b = some o ∧ H b = none := fun b o e =>
  ⟨I.base.keep b o (I.ok.bs b o e).1 (I.ok.bs b o e).2 (I.ok.nofr e) (I.ok.noex b o e), I.base.free b o (I.ok.bs b o e).1 (I.ok.bs b o e).2 (I.ok.noex b o e)⟩
theorem Inv.bk (I : Inv X pins σ H s) : ∀ b o, X.base.get? b = some o → s.heap.get? b = some o := fun b o e => (I.bs b o e).1
theorem Inv.mod (I : Inv X pins σ H s) : Mod X.K X.mg X.base := I.ok.mod
theorem Inv.kIn (I : Inv X pins σ H s) : X.K.In s.heap := I.ok.mod.kin.keeps I.bk
theorem Inv.nolimit (I : Inv X pins σ H s) : s.heap.NoLimit := I.ok.mod.nolimit.keeps I.bk
theorem Inv.fr (I : Inv X pins σ H s) : ∃ m, Fr X.base X.env.locals s.heap m :=
  let ⟨m, hn, _⟩ := I.loc
  ⟨m, hn, I.bk, Nat.le_trans I.ok.bsz I.ok.above⟩
theorem Inv.lt (I : Inv X pins σ H s) : X.env.locals < s.heap.objs.size := let ⟨_, hn, _⟩ := I.loc; hn.lt
theorem Inv.cne (I : Inv X pins σ H s) : ∀ x c, X.env.cells.lookup x = some c → c ≠ X.env.locals := fun x c e z => by
  obtain ⟨v, o, ho, hd⟩ := I.cell x c e
  obtain ⟨m, ⟨o', es, ep, ho', hd', _⟩, _⟩ := I.loc
  rw [z, ho'] at ho; cases ho; rw [hd'] at hd; cases hd
theorem Inv.funs (I : Inv X pins σ H s) : s.heap.FunFrames X.base X.outer := by
  have all : ∀ (l : List Env), (∀ b ∈ frs l, b ∈ X.fs) → X.s_0.heap.FunFrames X.base l → s.heap.FunFrames X.base l := by
    intro l
    induction l with
    | nil => intro _ _; trivial
    | cons env r ih =>
      intro hs hl
      obtain ⟨hk, ⟨L, o, hf, hn, ho, hd⟩, hr⟩ := hl
      have hL : L ∈ X.fs := hs L (by unfold frs; rw [List.filterMap_cons, hf]; exact List.mem_cons_self)
      obtain ⟨sl, e⟩ := I.base.slot L o ho (I.ok.frf L hL) hL fun z => I.ok.exfs L z hL
      exact ⟨hk, ⟨L, _, hf, hn, e, hd⟩, ih (fun b hb => hs b (by unfold frs; rw [List.filterMap_cons, hf]; exact List.mem_cons_of_mem _ hb)) hr⟩
  exact all X.outer (fun _ hb => hb) I.ok.funs
theorem Inv.stack (I : Inv X pins σ H s) : s.heap.FunFrames X.base X.stack := by
  rcases I.ok.stk with e | ⟨e, hf⟩
  · rw [e]; exact I.funs
  · rw [e]
    obtain ⟨m, hn, _⟩ := I.loc
    refine .cons (by rw [I.ok.kind]; decide) hf hn ?_ I.funs
    exact Heap.get?_none_of_le (Nat.le_trans I.ok.bsz I.ok.above)
theorem Inv.stkSub (I : Inv X pins σ H s) : ∀ b ∈ frs X.stack, b ∈ X.env.locals :: X.fs := fun b hb => by
  rcases I.ok.stk with e | ⟨e, hf⟩
  · rw [e] at hb; exact List.mem_cons_of_mem _ hb
  · rw [e] at hb
    unfold frs at hb
    rw [List.filterMap_cons, hf] at hb
    exact hb
theorem Inv.step {g' : Array GenState} {t' : Nat} {d' : Drawn} {ch : List Addr} (I : Inv X pins σ H s)
    (hch : ∀ b ∈ ch, (b ∈ X.ex ∨ X.s_0.heap.objs.size ≤ b) ∧ b ≠ X.env.locals ∧ (∀ x c, X.env.cells.lookup x = some c → c ≠ b) ∧ ∀ p ∈ X.pn ++ pins, p.1 ≠ b)
    (keep : ∀ b o, b ≠ X.env.locals → b ∉ X.fs → b ∉ ch → s.heap.get? b = some o → H b = none → h'.get? b = some o)
    (slot : ∀ b o, b ≠ X.env.locals → b ∈ X.fs → b ∉ ch → s.heap.get? b = some o → H b = none → ∃ sl, h'.get? b = some { o with slots := sl }) (free : ∀ b o, b ∉ ch → s.heap.get? b = some o → H b = none → H' b = none)
    (there : ∀ b o, b ∉ ch → s.heap.get? b = some o → ∃ o', h'.get? b = some o')
    (tups : ∀ b xs, H b = some (.tup xs) → H' b = some (.tup xs)) (frzs : ∀ b o u, H b = some (.frz o u) → H' b = some (.frz o u)) (tbls : ∀ b ps, H b = some (.tbl ps) → ∃ more, H' b = some (.tbl (ps ++ more)))
    (ns : ∀ m, s.heap.Ns X.env.locals m → h'.Ns X.env.locals m) (hok : HOk X.prog X.w H' h') (hg : AllBare g') :
    Inv X pins σ H' { s with heap := h', gens := g', drawn := d', toks := t' } := by
  have neL : ∀ b o, X.s_0.heap.get? b = some o → b ≠ X.env.locals := fun b o e => Nat.ne_of_lt (Nat.lt_of_lt_of_le (Heap.lt_size e) I.ok.above)
  have neC : ∀ b o, X.s_0.heap.get? b = some o → b ∉ X.ex → b ∉ ch := fun b o e hx hb => by
    rcases (hch b hb).1 with z | z
    · exact hx z
    · exact absurd (Nat.lt_of_lt_of_le (Heap.lt_size e) z) (Nat.lt_irrefl _)
  have cellK : ∀ x c, X.env.cells.lookup x = some c → ∀ v, s.heap.IsCell c v → h'.IsCell c v := fun x c e v ⟨o, ho, hd⟩ => by
    have nch : c ∉ ch := fun z => (hch c z).2.2.1 x c e rfl
    by_cases hc : c ∈ X.fs
    · obtain ⟨sl, q⟩ := slot c o (I.cne x c e) hc nch ho (I.freeC x c e)
      exact ⟨_, q, hd⟩
    · exact ⟨o, keep c o (I.cne x c e) hc nch ho (I.freeC x c e), hd⟩
  refine ⟨I.ok, I.os, hg, ⟨fun b o e n hb hx => ?_, fun b o e n hb hx => ?_, fun b o e n hx => ?_, fun b o e hx => ?_, fun b xs e => tups b xs (I.base.tups b xs e), fun b o xs e => frzs b o xs (I.base.frzs b o xs e), fun b ps e => ?_⟩, ?_, fun x c e => ?_, ?_, fun x c e => ?_, fun p hp => ?_, hok, I.len⟩
  · exact keep b o (neL b o e) hb (neC b o e hx) (I.base.keep b o e n hb hx) (I.base.free b o e n hx)
  · obtain ⟨sl, e1⟩ := I.base.slot b o e n hb hx
    obtain ⟨sl', e2⟩ := slot b _ (neL b o e) hb (neC b o e hx) e1 (I.base.free b o e n hx)
    exact ⟨sl', e2⟩
  · obtain ⟨o', e1⟩ := I.base.there b o e hx
    exact free b o' (neC b o e hx) e1 (I.base.free b o e n hx)
  · obtain ⟨o', e1⟩ := I.base.there b o e hx
    exact there b o' (neC b o e hx) e1
  · obtain ⟨m1, e1⟩ := I.base.tbls b ps e
    obtain ⟨m2, e2⟩ := tbls b _ e1
    exact ⟨m1 ++ m2, by rw [e2, Array.append_assoc]⟩
  · obtain ⟨m, hn, hl⟩ := I.loc
    refine ⟨m, ns m hn, fun i x v e1 e2 e3 => ?_⟩
    obtain ⟨u, r, l⟩ := hl i x v e1 e2 e3
    refine ⟨u, r, ?_⟩
    rcases l with l | ⟨k, c, e, z⟩
    · exact .inl l
    · exact .inr ⟨k, c, e, cellK x c e _ z⟩
  · obtain ⟨v, z⟩ := I.cell x c e
    exact ⟨v, cellK x c e v z⟩
  · obtain ⟨m, ⟨o, _, _, ho, _⟩, _⟩ := I.loc
    exact free _ o (fun z => (hch _ z).2.1 rfl) ho I.free
  · obtain ⟨v, o, ho, hd⟩ := I.cell x c e
    exact free c o (fun z => (hch c z).2.2.1 x c e rfl) ho (I.freeC x c e)
  · obtain ⟨e, n, ne, nf, d⟩ := I.pin p hp
    have nch : p.1 ∉ ch := fun z => (hch p.1 z).2.2.2 p hp rfl
    exact ⟨keep p.1 p.2 ne nf nch e n, free p.1 p.2 nch e n, ne, nf, d⟩
theorem Inv.un {t' : Nat} (I : Inv X pins σ H s) (u : Un X.fs [] H H' s.heap h') (hok : HOk X.prog X.w H' h') : Inv X pins σ H' { s with heap := h', toks := t' } := by
  obtain ⟨m, ⟨o, es, ep, ho, r⟩, _⟩ := id I.loc
  obtain ⟨sl, hL⟩ := u.any ho I.free (by simp)
  exact I.step (g' := s.gens) (d' := s.drawn) (ch := []) (fun _ z => nomatch z) (fun b o _ hb _ e n => u.keep b o e n hb (by simp)) (fun b o _ hb _ e n => u.slot b o e n hb (by simp)) (fun b o _ e n => u.free b o e n (by simp)) (fun b o _ e => u.there b o e (by simp)) u.tups u.frzs u.tbls (fun m' hm => by
    obtain ⟨o', es', ep', ho', r'⟩ := hm
    rw [ho] at ho'; cases ho'
    exact ⟨_, es', ep', hL, r'⟩) hok I.bare
theorem Inv.call {g' : Array GenState} {t' : Nat} {d' : Drawn} {ch : List Addr} (I : Inv X pins σ H s) (u : Un (frs X.stack) ch H H' s.heap h') (hok : HOk X.prog X.w H' h') (hg : AllBare g')
    (hch : ∀ b ∈ ch, (b ∈ X.ex ∨ X.s_0.heap.objs.size ≤ b) ∧ b ≠ X.env.locals ∧ (∀ x c, X.env.cells.lookup x = some c → c ≠ b) ∧ ∀ p ∈ X.pn ++ pins, p.1 ≠ b) :
    Inv X pins σ H' { s with heap := h', gens := g', drawn := d', toks := t' } := by
  obtain ⟨m, ⟨o, es, ep, ho, r⟩, _⟩ := id I.loc
  obtain ⟨sl, hL⟩ := u.any ho I.free fun z => (hch _ z).2.1 rfl
  exact I.step (ch := ch) hch (fun b o hL hb hc e n => u.keep b o e n (fun z => (List.mem_cons.mp (I.stkSub b z)).elim hL hb) hc) (fun b o _ _ hc e n => u.any e n hc) (fun b o hc e n => u.free b o e n hc) (fun b o hc e => u.there b o e hc) u.tups u.frzs u.tbls (fun m' hm => by
    obtain ⟨o', es', ep', ho', r'⟩ := hm
    rw [ho] at ho'; cases ho'
    exact ⟨_, es', ep', hL, r'⟩) hok hg
theorem Inv.kept {t' : Nat} (I : Inv X pins σ H s) (k : ∀ b u, s.heap.get? b = some u → h'.get? b = some u) : Inv X pins σ H { s with heap := h', toks := t' } := I.un (Un.kept k) (I.hok.kept k)
theorem Inv.write {x e : Addr} {o : HO} {t' : Nat} (I : Inv X pins σ H s) (mu : Mut (H x)) (he : e = x ∨ H e = some (.own x)) (k : ∀ b u, b ≠ e → s.heap.get? b = some u → h'.get? b = some u) (heo : ∃ u, h'.get? e = some u)
    (new : ObjOk X.prog X.w (upd H x o) h' x o) : Inv X pins σ (upd H x o) { s with heap := h', toks := t' } := I.un (Un.write mu he k heo) (I.hok.write mu he k heo new)
end
abbrev XK := Value → Option Addr → Hp → Prop
abbrev St := List (Option V)
abbrev VK := V → Hp → Prop
abbrev TE := St → Hp → VK → Prop
abbrev TT := St → Hp → (Bool → Hp → Prop) → Prop
abbrev TA := St → Hp → (List V → Hp → Prop) → Prop
structure Ends where
  nx : St → Hp → Prop
  rt : VK
  bk : St → Hp → Prop := fun _ _ => False
  ct : St → Hp → Prop := fun _ _ => False
abbrev TS := Ends → St → Hp → Prop
def EP (X : Cx) (pins : List (Addr × Obj)) (σ : St) (Q : VK) (u : Value) (s' : Shared) : Prop := ∃ v H', Inv X pins σ H' s' ∧ RelV v u ∧ Q v H'
def TP (X : Cx) (pins : List (Addr × Obj)) (σ : St) (Q : Bool → Hp → Prop) (b : Bool) (s' : Shared) : Prop := ∃ H', Inv X pins σ H' s' ∧ Q b H'
def SP (X : Cx) (pins : List (Addr × Obj)) (D : Ends) (f : Flow) (s' : Shared) : Prop :=
  match f with
  | .next => ∃ σ' H', Inv X pins σ' H' s' ∧ D.nx σ' H'
  | .brk => ∃ σ' H', Inv X pins σ' H' s' ∧ D.bk σ' H'
  | .cont => ∃ σ' H', Inv X pins σ' H' s' ∧ D.ct σ' H'
  | .ret u => ∃ v σ' H', Inv X pins σ' H' s' ∧ RelV v u ∧ D.rt v H'
def PE (X : Cx) (e : Expr) (t : TE) : Prop :=
  ∀ (pins : List (Addr × Obj)) (s : Shared) (σ : St) (H : Hp) (Q : VK), Inv X pins σ H s → t σ H Q → wpAny (model X.prog X.w) X.A (eval e X.env) (EP X pins σ Q) X.xe s
def PT (X : Cx) (e : Expr) (t : TT) : Prop :=
  ∀ (pins : List (Addr × Obj)) (s : Shared) (σ : St) (H : Hp) (Q : Bool → Hp → Prop), Inv X pins σ H s → t σ H Q → wpAny (model X.prog X.w) X.A (isTrue e X.env (eval e X.env)) (TP X pins σ Q) X.xe s
def PW (X : Cx) (e : Expr) (t : TT) : Prop :=
  ∀ (whole : Sem Value) (pins : List (Addr × Obj)) (s : Shared) (σ : St) (H : Hp) (Q : Bool → Hp → Prop), Inv X pins σ H s → t σ H Q → wpAny (model X.prog X.w) X.A (isTrue e X.env whole) (TP X pins σ Q) X.xe s
theorem PW.pt {X : Cx} {e : Expr} {t : TT} (h : PW X e t) : PT X e t := h _
def PS (X : Cx) (st : Stmt) (t : TS) : Prop :=
  ∀ (pins : List (Addr × Obj)) (s : Shared) (σ : St) (H : Hp) (D : Ends), Inv X pins σ H s → t D σ H → wpAny (model X.prog X.w) X.A (exec st X.env) (SP X pins D) X.xe s
def PSs (X : Cx) (st : List Stmt) (t : TS) : Prop :=
  ∀ (pins : List (Addr × Obj)) (s : Shared) (σ : St) (H : Hp) (D : Ends), Inv X pins σ H s → t D σ H → wpAny (model X.prog X.w) X.A (execs st X.env) (SP X pins D) X.xe s
end L2
namespace L2
open PySem PySem.Spec PyProof.Rows
section
variable {X : Cx}
variable {a b : Expr} {ta tb : TE} {pos : Pos}
variable {tA tB' : TT} {rest : List Expr}
end
end L2
namespace L2
open PySem PySem.Spec PyProof.Rows
def SqL (K : PySem.W.Frag) (H : Hp) (a : Addr) (xs : List V) : Prop :=
  Rd H a (.lst xs) ∨
    ∃ (o : Obj) (its : Array Value) (n : Nat), K.lookup a = some o ∧ o.cls = .type "list" ∧ o.dict = none ∧ o.data = .seq its n ∧ its.size ≤ sizeLine ∧ Vals xs its.toList
def SqT (K : PySem.W.Frag) (H : Hp) (a : Addr) (xs : List V) : Prop :=
  Rd H a (.tup xs) ∨
    ∃ (o : Obj) (its : Array Value) (n : Nat), K.lookup a = some o ∧ o.cls = .type "tuple" ∧ o.data = .seq its n ∧ its.size ≤ sizeLine ∧ Vals xs its.toList
def absV : Value → Option V
  | .none => some .non
  | .bool b => some (.bl b)
  | .int i _ => some (.int i)
  | .str x _ => some (.str x)
  | .bytes b _ => some (.byt b)
  | .float b _ => some (.flt b)
  | .ref a => some (.ref a)
  | .type n => some (.ty n)
  | _ => none
theorem RelV.abs {x : V} {u : Value} (r : RelV x u) : absV u = some x := by
  cases x with
  | non => cases r; rfl
  | bl _ => cases r; rfl
  | int _ => obtain ⟨t, rfl⟩ := r; rfl
  | str _ => obtain ⟨t, rfl⟩ := r; rfl
  | byt _ => obtain ⟨t, rfl⟩ := r; rfl
  | flt _ => obtain ⟨t, rfl⟩ := r; rfl
  | ref _ => cases r; rfl
  | ty _ => cases r; rfl
theorem RelV.inj {x y : V} {u : Value} (r : RelV x u) (q : RelV y u) : x = y := Option.some.inj (r.abs.symm.trans q.abs)
theorem Vals.inj : ∀ {xs ys : List V} {us : List Value}, Vals xs us → Vals ys us → xs = ys
  | _, _, _, .nil, .nil => rfl
  | _, _, _, .cons r t, .cons r' t' => by rw [r.inj r', Vals.inj t t']
section
variable {X : Cx} {pins : List (Addr × Obj)} {σ : St} {H : Hp} {s : Shared} {a : Addr} {xs ys : List V}
theorem SqL.of {K : PySem.W.Frag} (h : H a = some (.lst xs)) : SqL K H a xs := .inl (.inl h)
theorem SqT.of {K : PySem.W.Frag} (h : H a = some (.tup xs)) : SqT K H a xs := .inl (.inl h)
theorem Inv.list (I : Inv X pins σ H s) (h : SqL X.K H a xs) : ∃ its : List Value, Vals xs its ∧ PlainL s.heap a its.toArray ∧ xs.length ≤ sizeLine := by
  rcases h with h | ⟨o, its, n, hk, hc, hd, hs, hz, r⟩
  · obtain ⟨z, its, n, r, e⟩ := h.ok I.hok
    exact ⟨its, r, ⟨_, n, e, rfl, rfl, rfl⟩, z⟩
  · refine ⟨its.toList, r, ⟨o, n, I.kIn a o hk, hc, hd, by simpa using hs⟩, ?_⟩
    have e := r.length
    simp only [Array.length_toList] at e
    omega
theorem Inv.tuple (I : Inv X pins σ H s) (h : SqT X.K H a xs) : ∃ its : List Value, Vals xs its ∧ IsTup s.heap a its.toArray ∧ xs.length ≤ sizeLine := by
  rcases h with h | ⟨o, its, n, hk, hc, hs, hz, r⟩
  · obtain ⟨z, its, r, p⟩ := h.ok I.hok
    exact ⟨its, r, p, z⟩
  · refine ⟨its.toList, r, ⟨o, I.kIn a o hk, hc, n, by simpa using hs⟩, ?_⟩
    have e := r.length
    simp only [Array.length_toList] at e
    omega
end
abbrev Cx.wish (X : Cx) (E : Value → Shared → Prop) : Cx := { X with xe := E }
abbrev Cx.nox (X : Cx) : Cx := X.wish fun _ _ => False
theorem Cx.Ok.wish {X : Cx} (ok : X.Ok) (E : Value → Shared → Prop) : (X.wish E).Ok :=
  ⟨ok.mod, ok.kind, ok.glob, ok.blt, ok.above, ok.inj, ok.has, ok.cab, ok.hd, ok.frames, ok.stk, ok.exf, ok.bs, ok.bsz, ok.noex, ok.exfs, ok.funs, ok.frf⟩
theorem Cx.Ok.unwish {X : Cx} {E : Value → Shared → Prop} (ok : (X.wish E).Ok) : X.Ok :=
  ⟨ok.mod, ok.kind, ok.glob, ok.blt, ok.above, ok.inj, ok.has, ok.cab, ok.hd, ok.frames, ok.stk, ok.exf, ok.bs, ok.bsz, ok.noex, ok.exfs, ok.funs, ok.frf⟩
section
variable {X : Cx} {pins : List (Addr × Obj)} {σ : St} {H : Hp} {s : Shared} {E : Value → Shared → Prop}
theorem Inv.wish (I : Inv X pins σ H s) (E : Value → Shared → Prop) : Inv (X.wish E) pins σ H s := ⟨I.ok.wish E, I.os, I.bare, I.base, I.loc, I.cell, I.free, I.freeC, I.pin, I.hok, I.len⟩
theorem Inv.unwish (I : Inv (X.wish E) pins σ H s) : Inv X pins σ H s := ⟨I.ok.unwish, I.os, I.bare, I.base, I.loc, I.cell, I.free, I.freeC, I.pin, I.hok, I.len⟩
theorem SP.unwish {D : Ends} {f : Flow} {s' : Shared} (h : SP (X.wish E) pins D f s') : SP X pins D f s' := by
  cases f with
  | next => obtain ⟨σ', H', I, q⟩ := h; exact ⟨σ', H', I.unwish, q⟩
  | brk => obtain ⟨σ', H', I, q⟩ := h; exact ⟨σ', H', I.unwish, q⟩
  | cont => obtain ⟨σ', H', I, q⟩ := h; exact ⟨σ', H', I.unwish, q⟩
  | ret u => obtain ⟨v, σ', H', I, r, q⟩ := h; exact ⟨v, σ', H', I.unwish, r, q⟩
theorem PE.nox {e : Expr} {t : TE} (h : PE X.nox e t) : PE X e t := fun pins s σ H Q I hw =>
  wpAny_mono (h pins s σ H Q (I.wish _) hw) (fun _ _ ⟨v, H', I', r, q⟩ => ⟨v, H', I'.unwish, r, q⟩) fun _ _ z => False.elim z
theorem PT.nox {e : Expr} {t : TT} (h : PT X.nox e t) : PT X e t := fun pins s σ H Q I hw =>
  wpAny_mono (h pins s σ H Q (I.wish _) hw) (fun _ _ ⟨H', I', q⟩ => ⟨H', I'.unwish, q⟩) fun _ _ z => False.elim z
theorem PSs.nox {st : List Stmt} {t : TS} (h : PSs X.nox st t) : PSs X st t := fun pins s σ H D I hw =>
  wpAny_mono (h pins s σ H D (I.wish _) hw) (fun _ _ q => q.unwish) fun _ _ z => False.elim z
end
section
variable {X : Cx} {st : Stmt} {rest : List Stmt} {t u : TS} {e : Expr} {te : TE} {pos : Pos}
end
section
variable {X : Cx} {pos : Pos}
end
section
variable {X : Cx} {pos : Pos}
end
structure It where
  go : Nat → Hp → Prop
  yld : Nat → Hp → V → Hp → Prop
  stop : Nat → Hp → Prop
def FpOk (X : Cx) (pins : List (Addr × Obj)) (H : Hp) (b : Addr) : Prop :=
  H b = none ∧ b ≠ X.env.locals ∧ b ∉ X.fs ∧ (b ∈ X.ex ∨ X.s_0.heap.objs.size ≤ b) ∧ (∀ x c, X.env.cells.lookup x = some c → c ≠ b) ∧ ∀ p ∈ X.pn ++ pins, p.1 ≠ b
structure Turn (P : Program) (w : World) (K : PySem.W.Frag) (tg : Expr) (J : It) (fp : List Addr) (it : Addr) (tn : Nat → Heap → Prop) : Prop where
  mem : it ∈ fp
  obj : ∀ i h, tn i h → ∀ b ∈ fp, ∃ o, h.get? b = some o ∧ ∀ v, o.data ≠ .cell v
  keep : ∀ i h h', tn i h → (∀ b ∈ fp, ∀ o, h.get? b = some o → h'.get? b = some o) → tn i h'
  item : ∀ (X : Cx), X.prog = P → X.w = w → X.K = K → X.calm = true → ∀ (i : Nat) (pins : List (Addr × Obj)) (s : Shared) (σ : St) (H : Hp) (E : Value → Shared → Prop), Inv X pins σ H s → (∀ b ∈ fp, FpOk X pins H b) → tn i s.heap → J.go i H →
    wpAny (model P w) X.A (pyNext (.ref it)) (fun r s1 => ∃ u, r = some u ∧
      wpAny (model P w) X.A (letOwnedTupleGo tg (.ref it) u) (fun _ s2 => ∃ x H', Inv X pins σ H' s2 ∧ RelV x u ∧ J.yld i H x H' ∧ tn (i + 1) s2.heap ∧ ∀ b ∈ fp, H' b = none) E s1) E s
  done : ∀ (X : Cx), X.prog = P → X.w = w → X.K = K → X.calm = true → ∀ (i : Nat) (pins : List (Addr × Obj)) (s : Shared) (σ : St) (H : Hp) (E : Value → Shared → Prop), Inv X pins σ H s → (∀ b ∈ fp, FpOk X pins H b) → tn i s.heap → J.stop i H →
    wpAny (model P w) X.A (pyNext (.ref it)) (fun r s1 => r = none ∧ Inv X pins σ H s1) E s
  self : ∀ (A : Around) (i : Nat) (s : Shared) (Q : Value → Shared → Prop) (E : Value → Shared → Prop), tn i s.heap → Q (.ref it) s → wpAny (model P w) A (pyIter (.ref it)) Q E s
abbrev TI := St → Hp → (It → Hp → Prop) → Prop
def PIE (X : Cx) (pins : List (Addr × Obj)) (σ : St) (tg : Expr) (R : It → Hp → Prop) (itv : Value) (s2 : Shared) : Prop :=
  ∃ (it : Addr) (fp : List Addr) (tn : Nat → Heap → Prop) (J : It) (H' : Hp), itv = .ref it ∧ Inv X pins σ H' s2 ∧ Turn X.prog X.w X.K tg J fp it tn ∧ tn 0 s2.heap ∧ (∀ b ∈ fp, FpOk X pins H' b) ∧ R J H'
def PI (X : Cx) (tg iter : Expr) (wi : TI) : Prop :=
  ∀ (pins : List (Addr × Obj)) (s : Shared) (σ : St) (H : Hp) (R : It → Hp → Prop), Inv X pins σ H s → wi σ H R →
    wpAny (model X.prog X.w) X.A (eval iter X.env) (fun v s1 => wpAny (model X.prog X.w) X.A (pyIter v) (PIE X pins σ tg R) X.xe s1) X.xe s
end L2
namespace L2
open PySem PySem.Spec PyProof.Rows
section
variable {X : Cx} {tg : Expr}
end
end L2
namespace L2
open PySem PySem.Spec PyProof.Rows
abbrev R2 := V → V → Hp → VK → Prop
def OpR (X : Cx) (f : Value → Value → Sem Value) (r : R2) : Prop :=
  ∀ (pins : List (Addr × Obj)) (s : Shared) (σ : St) (H : Hp) (x y : V) (v u : Value) (Q : VK), Inv X pins σ H s → RelV x v → RelV y u → r x y H Q →
    wpAny (model X.prog X.w) X.A (f v u) (EP X pins σ Q) X.xe s
def CallR (X : Cx) (f : Value) (r : List V → Hp → VK → Prop) : Prop :=
  ∀ (pins : List (Addr × Obj)) (s : Shared) (σ : St) (H : Hp) (xs : List V) (us : List Value) (Q : VK), Inv X pins σ H s → Vals xs us → r xs H Q →
    wpAny (model X.prog X.w) X.A (call f us) (EP X pins σ Q) X.xe s
def rI (C : Int → Int → Prop) (g : Int → Int → V) : R2 := fun x y H Q => ∃ i j, x = .int i ∧ y = .int j ∧ C i j ∧ Q (g i j) H
section
variable {X : Cx} {a b c : Expr} {ta tb tc : TE} {pos : Pos}
def CMul (i j : Int) : Prop := (-(2 ^ 64) < i ∧ i < 2 ^ 64) ∨ (-(2 ^ 64) < j ∧ j < 2 ^ 64)
theorem CMul.ok {i j : Int} (h : CMul i j) : IntMulOk i j := by
  rcases h with ⟨h1, h2⟩ | ⟨h1, h2⟩
  · exact .of_left (intBits_le_64 h1 h2)
  · exact .of_right (intBits_le_64 h1 h2)
end
section
variable {X : Cx} {a b c : Expr} {ta tb tc : TE} {pos : Pos}
theorem OpR.or {f : Value → Value → Sem Value} {r r' : R2} (h : OpR X f r) (h' : OpR X f r') : OpR X f (fun x y H Q => r x y H Q ∨ r' x y H Q) := by
  intro pins s σ H x y v u Q I rx ry q
  rcases q with q | q
  · exact h pins s σ H x y v u Q I rx ry q
  · exact h' pins s σ H x y v u Q I rx ry q
end
end L2
namespace L2
open PySem PySem.Spec PyProof.Rows
structure ObjM (h : Heap) (x dx C : Addr) (mA : Str → Option Value) : Prop where
  obj : h.get? x = some (PySem.W.instObj C dx)
  ns : h.Ns1 dx mA
  ne : dx ≠ x
section
variable {prog : Program} {w : World} {A : Around} {E : Value → Shared → Prop} {s : Shared} {K : PySem.W.Frag} {x dx C f : Addr} {mA : Str → Option Value} {name : Str} {v : Value}
end
section
variable {P : Program} {w : World} {H H' : Hp} {h h' : Heap} {a C dx : Addr} {fs fs' : List (Str × V)}
end
structure Cls (K : PySem.W.Frag) (C : Addr) : Prop where
  pg : PySem.W.plainGet K C Str.empty = true
  hd : PySem.W.hasDictIn K C = true
  po : PySem.W.plainOver K C = true
  sa : PySem.W.findIn K (.ref C) "__setattr__" = some (some (.builtin "object.__setattr__"))
theorem Cls.get {K : PySem.W.Frag} {C : Addr} (c : Cls K C) (f : Str) : PySem.W.plainGet K C f = true := c.pg
structure Con (K : PySem.W.Frag) (C : Addr) (f : Str) (v : V) (u : Value) : Prop where
  at_ : PySem.W.findIn K (.ref C) f = some (some u)
  rel : RelV v u
  get : PySem.W.specialIn K u "__get__" = some none
  cp : PySem.W.copiedNames.contains f = false
structure Meth (K : PySem.W.Frag) (C : Addr) (m : Str) (f : Addr) : Prop where
  at_ : PySem.W.findIn K (.ref C) m = some (some (.ref f))
  fn : PySem.W.isFn K (.ref f) = true
  kp : PySem.W.keepIn K (.ref f) = true
section
variable {X : Cx} {pins : List (Addr × Obj)} {σ : St} {H : Hp} {s : Shared} {a C dx : Addr} {fs : List (Str × V)} {f : Str} {v : V} {A : Around} {E : Value → Shared → Prop}
end
section
variable {X : Cx} {o e value : Expr} {f : Str} {pos pos' tpos : Pos} {ta tv : TE}
end
section
variable {X : Cx} {pins : List (Addr × Obj)} {σ : St} {H : Hp} {s : Shared} {A : Around} {E : Value → Shared → Prop} {Q : Value → Shared → Prop} {c : Value} {b : Bool}
inductive TyOf (K : PySem.W.Frag) (H : Hp) : V → Value → Prop where
  | non : TyOf K H .non (.type "NoneType")
  | bl (x : Bool) : TyOf K H (.bl x) (.type "bool")
  | int (i : Int) : TyOf K H (.int i) (.type "int")
  | str (x : Str) : TyOf K H (.str x) (.type "str")
  | flt (x : UInt64) : TyOf K H (.flt x) (.type "float")
  | lst {a : Addr} {xs : List V} (e : H a = some (.lst xs)) : TyOf K H (.ref a) (.type "list")
  | frz {a : Addr} {o : Obj} {xs : List V} (e : H a = some (.frz o (.lst xs))) : TyOf K H (.ref a) (.type "list")
  | tup {a : Addr} {xs : List V} (e : H a = some (.tup xs)) : TyOf K H (.ref a) (.type "tuple")
  | dK {a : Addr} {kvs : List (Key × V)} (e : H a = some (.dK kvs)) : TyOf K H (.ref a) (.type "dict")
  | dT {a : Addr} {kvs : List (List Key × V)} (e : H a = some (.dT kvs)) : TyOf K H (.ref a) (.type "dict")
  | ins {a C dx : Addr} {fs : List (Str × V)} (e : H a = some (.ins C dx fs)) (cl : Cls K C) (ha : PySem.W.findIn K (.ref C) "__class__" = some (some (.builtin "object.__class__")))
      (hn : PySem.W.specialIn K (.builtin "object.__class__") "__get__" = some (some (.builtin "getset_descriptor.__get__"))) (htk : PySem.W.takesIn K (.builtin "object.__class__") = some true)
      (hm : PySem.W.mroIn K C (.type "object") = some true) : TyOf K H (.ref a) (.ref C)
end
end L2
namespace L2
open PySem PySem.Spec PyProof.Rows
structure Room (k : Nat) (A : Around) : Prop where
  hd : A.handled = none
  dp : A.depth + 3 * k + 5 < recursionLimit
  un : A.units + 16 * k + 200 < cLine
theorem Room.mono {j k : Nat} {A : Around} (r : Room k A) (h : j ≤ k) : Room j A := ⟨r.hd, by have := r.dp; omega, by have := r.un; omega⟩
theorem Room.deeper {k : Nat} {A : Around} (r : Room (k + 1) A) (env : Env) : Room k (A.deeper env) :=
  ⟨r.hd, by have := r.dp; show A.depth + 1 + 3 * k + 5 < _; omega, by have := r.un; show A.units + 3 + 16 * k + 200 < _; omega⟩
theorem Room.depth {k : Nat} {A : Around} (r : Room k A) : A.depth < recursionLimit := by have := r.dp; omega
theorem Room.units {k : Nat} {A : Around} (r : Room k A) : A.units + 64 < cLine := by have := r.un; omega
section
variable {X : Cx} {e : Expr} {es : List Expr} {te : TE} {t : TA} {pos : Pos}
end
abbrev Sp := List V → Hp → VK → XK → Prop
abbrev CXT := List Env → Hp → Shared → XK → Value → Shared → Prop
structure Env0 (P : Program) (w : World) (K : PySem.W.Frag) (mg : Str → Option Value) (base : Heap) (A : Around) (outer : List Env) (s : Shared) (H : Hp) : Prop where
  frames : A.frames = some outer
  mod : Mod K mg base
  bs : ∀ b o, base.get? b = some o → s.heap.get? b = some o ∧ H b = none
  bsz : base.objs.size ≤ s.heap.objs.size
  funs : s.heap.FunFrames base outer
  frf : ∀ b ∈ frs outer, H b = none
  hok : HOk P w H s.heap
  bare : AllBare s.gens
def CE (outer : List Env) (P : Program) (w : World) (H : Hp) (s : Shared) (Q : VK) (u : Value) (s' : Shared) : Prop :=
  ∃ v H', s'.os = s.os ∧ AllBare s'.gens ∧ Un (frs outer) [] H H' s.heap s'.heap ∧ HOk P w H' s'.heap ∧ RelV v u ∧ Q v H'
def CR (CX : CXT) (outer : List Env) (P : Program) (w : World) (H : Hp) (s : Shared) (Q : VK) (E : XK) (r : Result) (s' : Shared) : Prop :=
  match r with
  | .ok (.ret u) => CE outer P w H s Q u s'
  | .ok _ => False
  | .error e => CX outer H s E e s'
structure FnOk (P : Program) (w : World) (K : PySem.W.Frag) (mg : Str → Option Value) (base : Heap) (CX : CXT) (k : Nat) (f : Addr) (fd : FuncData) (ps : List Str) (sp : Sp) : Prop where
  len : ∀ vs H Q E, sp vs H Q E → vs.length = ps.length
  run : ∀ (A : Around) (outer : List Env) (s : Shared) (H : Hp) (args : Args) (us : List Value) (vs : List V) (Q : VK) (E : XK), Room k A → Env0 P w K mg base A outer s H → BindsTo s fd args (ps.zip us) → Vals vs us → sp vs H Q E →
    codeAny (model P w) A (.call (.ref f) args) (CR CX outer P w H s Q E) s
theorem FnOk.mono {P : Program} {w : World} {K : PySem.W.Frag} {mg : Str → Option Value} {base : Heap} {CX : CXT} {j k : Nat} {f : Addr} {fd : FuncData} {ps : List Str} {sp : Sp} (F : FnOk P w K mg base CX j f fd ps sp) (h : j ≤ k) :
    FnOk P w K mg base CX k f fd ps sp := ⟨F.len, fun A outer s H args us vs Q E hr => F.run A outer s H args us vs Q E (hr.mono h)⟩
theorem FnOk.imp {P : Program} {w : World} {K : PySem.W.Frag} {mg : Str → Option Value} {base : Heap} {CX : CXT} {k : Nat} {f : Addr} {fd : FuncData} {ps : List Str} {sp sp' : Sp} (F : FnOk P w K mg base CX k f fd ps sp)
    (h : ∀ vs H Q E, sp' vs H Q E → sp vs H Q E) : FnOk P w K mg base CX k f fd ps sp' :=
  ⟨fun vs H Q E q => F.len vs H Q E (h _ _ _ _ q), fun A outer s H args us vs Q E hr he hb hv hs => F.run A outer s H args us vs Q E hr he hb hv (h _ _ _ _ hs)⟩
section
variable {X : Cx} {pins : List (Addr × Obj)} {σ : St} {H : Hp} {s s' : Shared}
end
def Binds (K : PySem.W.Frag) (fd : FuncData) (ps : List Str) (ds : List Value) : Prop :=
  ∀ (s : Shared) (us : List Value), K.In s.heap → (us ++ ds).length = ps.length → BindsTo s fd ⟨us, []⟩ (ps.zip (us ++ ds))
theorem Binds.all {K : PySem.W.Frag} {fd : FuncData} {ps : List Str} (h : ∀ us : List Value, us.length = ps.length → bindArgs fd ⟨us, []⟩ = pure (ps.zip us)) : Binds K fd ps [] := fun s us _ hl => by
  rw [List.append_nil] at hl ⊢
  exact .of_eq (h us hl)
section
variable {X : Cx} {CX : CXT} {k : Nat} {f C : Addr} {fd : FuncData} {ps : List Str} {sp : Sp} {dvs : List V} {ds : List Value} {E : XK} {x m : Str} {p pos apos : Pos} {e o : Expr} {es : List Expr} {ta : TE} {t : TA}
structure Mk (K : PySem.W.Frag) (C f : Addr) : Prop where
  makes : PySem.W.makesIn K C = true
  init : PySem.W.findIn K (.ref C) "__init__" = some (some (.ref f))
  fn : PySem.W.isFn K (.ref f) = true
  kp : PySem.W.keepIn K (.ref C) = true
end
section
variable {X : Cx} {CX : CXT} {k : Nat} {f C : Addr} {fd : FuncData} {ps ks : List Str} {sp : Sp} {E : XK} {x m : Str} {p pos apos kpos : Pos} {e o : Expr} {es : List Expr} {kws : List Keyword} {te ta : TE} {t tk : TA} {nm : Option Str}
structure KBinds (K : PySem.W.Frag) (fd : FuncData) (ps ks : List Str) (g : List Value → List Value → List Value) (gV : List V → List V → List V) : Prop where
  to : ∀ (s : Shared) (us ws : List Value), K.In s.heap → (g us ws).length = ps.length → BindsTo s fd ⟨us, ks.zip ws⟩ (ps.zip (g us ws))
  rel : ∀ {vs : List V} {us : List Value} {zs : List V} {ws : List Value}, Vals vs us → Vals zs ws → Vals (gV vs zs) (g us ws)
variable {g : List Value → List Value → List Value} {gV : List V → List V → List V}
end
structure FnScope (N P : List Str) (sc : Scope) : Prop where
  kind : sc.kind = .function
  co : sc.isCoroutine = false
  gen : sc.isGenerator = false
  nd : N.Nodup
  pre : N.take P.length = P
  par : ∀ x ∈ P, sc.names.lookup x = some .local ∨ sc.names.lookup x = some .cell
  nofree : ∀ y ∈ sc.names, y.2 ≠ .free
theorem bindL_out {kindOf : Str → Option NameKind} {x : Str} : ∀ {binds : List (Str × Value)} {m : Str → Option Value}, (∀ v, (x, v) ∉ binds) → bindL kindOf binds m x = m x
  | [], _, _ => rfl
  | (n, v) :: r, m, h => by
    unfold bindL
    rw [bindL_out fun w hw => h w (List.mem_cons_of_mem _ hw)]
    split
    · have : x ≠ n := by rintro rfl; exact h v List.mem_cons_self
      simp [this]
    · rfl
theorem bindC_out {kindOf : Str → Option NameKind} {x : Str} : ∀ {binds : List (Str × Value)} {m : Str → Option Value}, (∀ v, (x, v) ∉ binds) → bindC kindOf binds m x = m x
  | [], _, _ => rfl
  | (n, v) :: r, m, h => by
    unfold bindC
    rw [bindC_out fun w hw => h w (List.mem_cons_of_mem _ hw)]
    split
    · rfl
    · have : x ≠ n := by rintro rfl; exact h v List.mem_cons_self
      simp [this]
theorem bindL_get {kindOf : Str → Option NameKind} {x : Str} {v : Value} : ∀ {P : List Str} {vs : List Value} {i : Nat} {m : Str → Option Value}, P.Nodup → P[i]? = some x → vs[i]? = some v → kindOf x = some .local →
    bindL kindOf (P.zip vs) m x = some v
  | [], _, _, _, _, h, _, _ => by simp at h
  | _ :: _, [], _, _, _, _, h, _ => by simp at h
  | p :: P, w :: vs, 0, m, nd, h1, h2, hk => by
    simp at h1 h2; subst h1; subst h2
    show bindL kindOf ((p, w) :: P.zip vs) m p = _
    unfold bindL
    rw [bindL_out fun v hv => (List.nodup_cons.mp nd).1 (List.of_mem_zip hv).1, if_pos hk]
    simp
  | p :: P, w :: vs, i + 1, m, nd, h1, h2, hk => by
    show bindL kindOf ((p, w) :: P.zip vs) m x = _
    unfold bindL
    exact bindL_get (i := i) (List.nodup_cons.mp nd).2 (by simpa using h1) (by simpa using h2) hk
theorem bindC_get {kindOf : Str → Option NameKind} {x : Str} {v : Value} : ∀ {P : List Str} {vs : List Value} {i : Nat} {m : Str → Option Value}, P.Nodup → P[i]? = some x → vs[i]? = some v → kindOf x ≠ some .local →
    bindC kindOf (P.zip vs) m x = some v
  | [], _, _, _, _, h, _, _ => by simp at h
  | _ :: _, [], _, _, _, _, h, _ => by simp at h
  | p :: P, w :: vs, 0, m, nd, h1, h2, hk => by
    simp at h1 h2; subst h1; subst h2
    show bindC kindOf ((p, w) :: P.zip vs) m p = _
    unfold bindC
    rw [bindC_out fun v hv => (List.nodup_cons.mp nd).1 (List.of_mem_zip hv).1, if_neg hk]
    simp
  | p :: P, w :: vs, i + 1, m, nd, h1, h2, hk => by
    show bindC kindOf ((p, w) :: P.zip vs) m x = _
    unfold bindC
    exact bindC_get (i := i) (List.nodup_cons.mp nd).2 (by simpa using h1) (by simpa using h2) hk
def start (N : List Str) (vs : List V) : St := vs.map some ++ List.replicate (N.length - vs.length) none
def cxOf (CX : CXT) (P : Program) (w : World) (K : PySem.W.Frag) (mg : Str → Option Value) (base : Heap) (N : List Str) (qual : Str) (scope : Scope) (f : Addr) (cd : Value) (A : Around) (outer : List Env) (s : Shared) (H : Hp) (E : XK) : Cx where
  prog := P
  w := w
  K := K
  mg := mg
  base := base
  A := A.deeper (envOfC qual scope s.heap.objs.size f cd)
  N := N
  s_0 := s
  H_0 := H
  env := envOfC qual scope s.heap.objs.size f cd
  outer := outer
  stack := envOfC qual scope s.heap.objs.size f cd :: outer
  ex := []
  calm := true
  fn := fun _ => true
  pn := []
  xe := fun e s' => wpAny (model P w) (A.deeper (envOfC qual scope s.heap.objs.size f cd)) (leaving (envOfC qual scope s.heap.objs.size f cd) e) (fun _ s'' => CX outer H s E e s'') (fun e' s'' => CX outer H s E e' s'') s'
theorem cell_has {sc : Scope} {n : Nat} {x : Str} (h : sc.names.lookup x = some .cell) : ∃ c, (cellsFrom n sc.names []).lookup x = some c := by
  have q := PySem.W.cellsFrom_some sc.names n [] (.inl h)
  exact Option.isSome_iff_exists.mp q
theorem inv_start {CX : CXT} {P : Program} {w : World} {K : PySem.W.Frag} {mg : Str → Option Value} {base : Heap} {N ps : List Str} {qual : Str} {scope : Scope} {f : Addr} {cd : Value} {A : Around} {outer : List Env} {s s1 : Shared} {H : Hp} {E : XK} {us : List Value} {vs : List V}
    (S : FnScope N ps scope) (hd : A.handled = none) (e0 : Env0 P w K mg base A outer s H) (hl : vs.length = ps.length) (r : Vals vs us)
    (x : InCallC s s.heap.objs.size (bindL (envOfC qual scope s.heap.objs.size f cd).kindOf (ps.zip us) fun _ => none) (cellsFrom (s.heap.objs.size + 1) scope.names []) (bindC (envOfC qual scope s.heap.objs.size f cd).kindOf (ps.zip us) fun _ => none) s1) :
    Inv (cxOf CX P w K mg base N qual scope f cd A outer s H E) [] (start N vs) H s1 := by
  have hpl : ps.length ≤ N.length := by have := congrArg List.length S.pre; rw [List.length_take] at this; omega
  obtain ⟨h1, tk, rfl, hk⟩ := x.done
  have noA : ∀ b : Addr, b ∉ (cxOf CX P w K mg base N qual scope f cd A outer s H E).ex := fun b z => absurd (show b ∈ ([] : List Addr) from z) (by simp)
  refine ⟨⟨e0.mod, S.kind, rfl, rfl, Nat.le_refl _, fun y z c h1 h2 => ?_, fun y hy => ?_, fun y c _ h => ?_, fun _ => hd, Around.frames_deeper e0.frames, .inr ⟨rfl, rfl⟩, fun b z => absurd z (noA b), e0.bs, e0.bsz, fun b _ _ => noA b, fun b z => absurd z (noA b), e0.funs, e0.frf⟩,
    rfl, e0.bare, Un.kept hk, ⟨_, x.toInCall.ns, fun i y v h1 h2 h3 => ?_⟩, fun y c h => ⟨_, x.cell y c h⟩, e0.hok.fresh (Nat.le_refl _), fun y c h => ?_, fun p hp => absurd (show p ∈ ([] : List (Addr × Obj)) from hp) (by simp), e0.hok.kept hk, ?_⟩
  · exact name_of_addr x.apart (PySem.mem_of_lookup h1) (PySem.mem_of_lookup h2)
  · have hy : scope.names.lookup y = some .cell ∨ scope.names.lookup y = some .free := hy
    rcases hy with hy | hy
    · exact cell_has hy
    · exact absurd rfl (S.nofree _ (PySem.mem_of_lookup hy))
  · exact Nat.le_of_lt (x.above y c (PySem.mem_of_lookup h))
  · have hi : i < vs.length := by
      unfold start at h2
      by_cases hi : i < vs.length
      · exact hi
      · rw [List.getElem?_append_right (by simpa using hi)] at h2
        rw [List.getElem?_replicate] at h2
        split at h2 <;> cases h2
    have ha : vs[i]? = some v := by
      unfold start at h2
      rw [List.getElem?_append_left (by simpa using hi), List.getElem?_map] at h2
      cases e : vs[i]? with
      | none => rw [e] at h2; cases h2
      | some a => rw [e] at h2; cases h2; rfl
    obtain ⟨u, hu, rv⟩ := r.get ha
    have hp : ps[i]? = some y := by
      rw [← S.pre, List.getElem?_take_of_lt (by omega)]; exact h1
    have ndP : ps.Nodup := by rw [← S.pre]; exact S.nd.sublist (List.take_sublist _ _)
    refine ⟨u, rv, ?_⟩
    rcases S.par y (List.mem_of_getElem? hp) with k | k
    · exact .inl ⟨k, bindL_get ndP hp hu k⟩
    · obtain ⟨c, e⟩ := cell_has (n := s.heap.objs.size + 1) k
      refine .inr ⟨.inl k, c, e, ?_⟩
      have q := x.cell y c e
      rw [bindC_get ndP hp hu (by show scope.names.lookup y ≠ _; rw [k]; decide)] at q
      exact q
  · exact e0.hok.fresh (Nat.le_of_lt (x.above y c (PySem.mem_of_lookup h)))
  · unfold start
    show _ = N.length
    rw [List.length_append, List.length_map, List.length_replicate]
    omega
theorem fn_of {CX : CXT} {P : Program} {w : World} {K : PySem.W.Frag} {mg : Str → Option Value} {base : Heap} {k : Nat} {f : Addr} {name qual : Str} {params : Arguments} {body : List Stmt} {scope : Scope} {dV kV doc pm cdv ct oc : Value} {an od : Option Addr}
    {osl : Array (Option Value)} {N ps : List Str} {sp : Sp} (lk : K.lookup f = some ⟨oc, od, .func (PySem.W.fnOf name qual params body scope dV kV doc pm an cdv ct), osl⟩) (hcd : PySem.W.codeIn K cdv qual = true) (S : FnScope N ps scope)
    (len : ∀ vs H Q E, sp vs H Q E → vs.length = ps.length)
    (hbody : ∀ (A : Around) (outer : List Env) (s : Shared) (H : Hp) (vs : List V) (Q : VK) (E : XK), Room k (A.deeper (envOfC qual scope s.heap.objs.size f cdv)) → sp vs H Q E →
      ∃ t, PSs (cxOf CX P w K mg base N qual scope f cdv A outer s H E) body t ∧ t { nx := fun _ H' => Q .non H', rt := Q } (start N vs) H) :
    FnOk P w K mg base CX (k + 1) f (PySem.W.fnOf name qual params body scope dV kV doc pm an cdv ct) ps sp := by
  refine ⟨len, fun A outer s H args us vs Q E hr e0 hb r hsp => ?_⟩
  have hl := len _ _ _ _ hsp
  have KX : K.In s.heap := e0.mod.kin.keeps fun b o e => (e0.bs b o e).1
  have lim : s.heap.NoLimit := e0.mod.nolimit.keeps fun b o e => (e0.bs b o e).1
  have hkind : ∀ y ∈ ps.zip us, scope.names.lookup y.1 = some .local ∨ (scope.names.lookup y.1 = some .cell ∧ ((cellsFrom (s.heap.objs.size + 1) scope.names []).lookup y.1).isSome = true) := fun ⟨n, v⟩ hy => by
    rcases S.par n (List.of_mem_zip hy).1 with q | q
    · exact .inl q
    · exact .inr ⟨q, PySem.W.cellsFrom_some _ _ _ (.inl q)⟩
  refine codeAny_call_function hr.depth (KX _ _ lk) rfl S.co S.gen rfl (PySem.W.codeRec_of KX hcd) (hb _ _ _ _ ?_)
  refine wpAny_newFunctionEnv_cells S.kind hkind fun env he s1 x => ?_
  subst he
  refine ⟨lim.keeps x.toInCall.keep, codeAny_func ?_⟩
  obtain ⟨t, ht, hq⟩ := hbody A outer s H vs Q E (hr.deeper _) hsp
  have I : Inv (cxOf CX P w K mg base N qual scope f cdv A outer s H E) [] (start N vs) H s1 := inv_start S hr.hd e0 hl r x
  refine wpAny_mono (ht [] s1 (start N vs) H _ I hq) (fun fl s' hs => ?_) fun e s' hs => hs
  have fin : ∀ {σ' : St} {H' : Hp} {v : V} {u : Value}, Inv (cxOf CX P w K mg base N qual scope f cdv A outer s H E) [] σ' H' s' → RelV v u → Q v H' → CE outer P w H s Q u s' :=
    fun {σ' H' v u} J rv q => ⟨v, H', J.os, J.bare, J.base, J.hok, rv, q⟩
  cases fl with
  | ret u =>
    obtain ⟨v, σ', H', J, rv, q⟩ := hs
    exact fin J rv q
  | next =>
    obtain ⟨σ', H', J, q⟩ := hs
    exact fin (v := V.non) (u := Value.none) J rfl q
  | brk =>
    obtain ⟨_, _, _, q⟩ := hs
    exact False.elim q
  | cont =>
    obtain ⟨_, _, _, q⟩ := hs
    exact False.elim q
end L2
namespace L2
open PySem PySem.Spec PyProof.Rows
section
variable {X : Cx} {x : Str} {p pos : Pos} {e : Expr} {es : List Expr} {t : TA} {id T : String} {r : List V → Hp → VK → Prop}
end
end L2
namespace HT
open PySem PyProof.Rows
section
open PySem.SeqAt
open PySem.AutoSeq1 (wpAny_loadPart')
open PySem.MeetsSeq PySem.MeetsSeq2 PySem.MeetsSeq3
end
section
variable {prog : Program} {w : World} {A : Around} {E : Value → Shared → Prop} {s : Shared}
def sIx (n d : Nat) : Option Int → Nat
  | none => d
  | some v => if v < 0 then (v + (n : Int)).toNat else min v.toNat n
theorem sIx_none (n d : Nat) : sIx n d none = d := rfl
theorem sIx_nat (n d k : Nat) : sIx n d (some (k : Int)) = min k n := by
  show (if (k : Int) < 0 then ((k : Int) + (n : Int)).toNat else min (k : Int).toNat n) = min k n
  rw [if_neg (by omega), Int.toNat_natCast]
end
end HT
namespace L2
open PySem PySem.Spec PyProof.Rows
abbrev TO := St → Hp → (Option Int → Hp → Prop) → Prop
section
variable {X : Cx} {e : Expr} {te : TE} {lo hi : Option Expr} {tl th : TO} {pos p2 : Pos}
def SlR (X : Cx) (r : V → Option Int → Option Int → Hp → VK → Prop) : Prop :=
  ∀ (pins : List (Addr × Obj)) (s : Shared) (σ : St) (H : Hp) (x : V) (v vl vu : Value) (lo hi : Option Int) (sl : Addr) (Q : VK), Inv X pins σ H s → RelV x v → s.heap.IsSliceOf sl vl vu .none → IsPart vl lo → IsPart vu hi → r x lo hi H Q →
    ∃ T id, typeLookup (.type T) "__getitem__" = pure (some (.builtin id)) ∧ s.TypeIs v T ∧ wpAny (model X.prog X.w) X.A (getItem v (.ref sl)) (EP X pins σ Q) X.xe s
theorem SlR.or {r r' : V → Option Int → Option Int → Hp → VK → Prop} (h : SlR X r) (h' : SlR X r') : SlR X (fun x lo hi H Q => r x lo hi H Q ∨ r' x lo hi H Q) := by
  intro pins s σ H x v vl vu lo hi sl Q I rx hs pl pu q
  rcases q with q | q
  · exact h pins s σ H x v vl vu lo hi sl Q I rx hs pl pu q
  · exact h' pins s σ H x v vl vu lo hi sl Q I rx hs pl pu q
end
end L2
namespace L2
open PySem PySem.Spec PyProof.Rows
def ixN (n : Nat) (i : Int) : Option Nat := if 0 ≤ i then (if i < n then some i.toNat else none) else if -(n : Int) ≤ i then some (i + n).toNat else none
def atI {α : Type} (xs : List α) (i : Int) : Option α := (ixN xs.length i).bind fun j => xs[j]?
def IxR (X : Cx) (r : R2) : Prop :=
  ∀ (value slice : Expr) (pins : List (Addr × Obj)) (s : Shared) (σ : St) (H : Hp) (x y : V) (v u : Value) (Q : VK), Inv X pins σ H s → RelV x v → RelV y u → r x y H Q →
    subscripted slice false v u = operate [v, u] (getItem v u) → wpAny (model X.prog X.w) X.A (subscriptTail value slice v u) (EP X pins σ Q) X.xe s
def MtR (X : Cx) (id : String) (r : V → List V → Hp → VK → Prop) : Prop :=
  ∀ (pins : List (Addr × Obj)) (s : Shared) (σ : St) (H : Hp) (x : V) (xs : List V) (v : Value) (us : List Value) (Q : VK), Inv X pins σ H s → RelV x v → Vals xs us → r x xs H Q →
    wpAny (model X.prog X.w) X.A (call (.builtin id) (v :: us)) (EP X pins σ Q) X.xe s
section
variable {X : Cx} {a b : Expr} {ta tb : TE} {pos : Pos}
theorem IxR.or {r r' : R2} (h : IxR X r) (h' : IxR X r') : IxR X (fun x y H Q => r x y H Q ∨ r' x y H Q) := by
  intro value slice pins s σ H x y v u Q I rx ry q hs
  rcases q with q | q
  · exact h value slice pins s σ H x y v u Q I rx ry q hs
  · exact h' value slice pins s σ H x y v u Q I rx ry q hs
theorem MtR.or {id : String} {r r' : V → List V → Hp → VK → Prop} (h : MtR X id r) (h' : MtR X id r') : MtR X id (fun x xs H Q => r x xs H Q ∨ r' x xs H Q) := by
  intro pins s σ H x xs v us Q I rx rs q
  rcases q with q | q
  · exact h pins s σ H x xs v us Q I rx rs q
  · exact h' pins s σ H x xs v us Q I rx rs q
theorem Inv.lst {pins : List (Addr × Obj)} {σ : St} {H : Hp} {s : Shared} {p : Addr} {xs : List V} (I : Inv X pins σ H s) (h : H p = some (.lst xs)) :
    ∃ (its : List Value) (n : Nat), Vals xs its ∧ s.heap.get? p = some { cls := .type "list", data := .seq its.toArray n } ∧ xs.length ≤ sizeLine := by
  obtain ⟨z, its, n, r, e⟩ := I.hok p _ h
  exact ⟨its, n, r, e, z⟩
theorem CallR.or {f : Value} {r r' : List V → Hp → VK → Prop} (h : CallR X f r) (h' : CallR X f r') : CallR X f (fun xs H Q => r xs H Q ∨ r' xs H Q) := by
  intro pins s σ H xs us Q I rs q
  rcases q with q | q
  · exact h pins s σ H xs us Q I rs q
  · exact h' pins s σ H xs us Q I rs q
variable {o e : Expr} {es : List Expr} {to : TE} {t : TA} {name : Str} {apos cpos : Pos} {T id : String} {r : V → List V → Hp → VK → Prop}
/- xs.append(e), list.index on a module's tuple .. are MtR facts of 06m -/
end
end L2
namespace L2
open PySem PySem.Spec PyProof.Rows
theorem Vals.one : ∀ {x : V} {us : List Value}, Vals [x] us → ∃ u, us = [u] ∧ RelV x u
  | _, _, .cons r .nil => ⟨_, rfl, r⟩
theorem Vals.zero : ∀ {us : List Value}, Vals [] us → us = []
  | _, .nil => rfl
theorem Vals.dropLast {xs : List V} {us : List Value} (h : Vals xs us) : Vals xs.dropLast us.dropLast := by
  induction h with
  | nil => exact .nil
  | cons r t ih =>
    cases t with
    | nil => exact .nil
    | cons q t' => exact .cons r ih
theorem Vals.reverse {xs : List V} {us : List Value} (h : Vals xs us) : Vals xs.reverse us.reverse := by
  induction h with
  | nil => exact .nil
  | cons r t ih => rw [List.reverse_cons, List.reverse_cons]; exact Vals.append ih (.cons r .nil)
section
variable {X : Cx} {pins : List (Addr × Obj)} {σ : St} {H : Hp} {s : Shared} {l b : Addr} {xs ys zs : List V}
theorem Inv.fresh (I : Inv X pins σ H s) : H s.heap.objs.size = none := I.hok.fresh (Nat.le_refl _)
end
section
variable {X : Cx}
end
section
variable {prog : Program} {w : World} {A : Around} {E : Value → Shared → Prop} {s : Shared}
end
section
variable {X : Cx}
end
end L2
namespace L2
open PySem PySem.Spec PyProof.Rows
theorem Vals.ints : ∀ {ns : List Int} {us : List Value}, Vals (ns.map V.int) us → IntsAre us ns
  | [], us, h => by
    rw [List.map_nil] at h
    cases h
    exact IntsAre.nil
  | n :: ns, us, h => by
    rw [List.map_cons] at h
    cases h with
    | cons r t =>
      obtain ⟨k, rfl⟩ := r
      exact IntsAre.cons n k (Vals.ints t)
theorem Vals.strs : ∀ {xs : List Str} {us : List Value}, Vals (xs.map V.str) us → StrsAre us xs
  | [], us, h => by
    rw [List.map_nil] at h
    cases h
    exact StrsAre.nil
  | x :: xs, us, h => by
    rw [List.map_cons] at h
    cases h with
    | cons r t =>
      obtain ⟨k, rfl⟩ := r
      exact StrsAre.cons x k (Vals.strs t)
section
variable {prog : Program} {w : World} {A : Around} {E : Value → Shared → Prop} {s : Shared} {l : Addr} {its : List Value} {ns : List Int} {Q : Value → Shared → Prop}
end
section
variable {X : Cx}
end
section
variable {X : Cx}
end
section
variable {X : Cx}
end
section
variable {X : Cx}
end
def dicT (g : List (Int × Int)) : List (List Key × V) := g.map fun p => ([.inl p.1, .inl p.2], .bl true)
def dicD (g : List (Int × Int)) : List (PyData × PyData) := g.map fun p => (.tuple [.int p.1, .int p.2], .bool true)
section
variable {X : Cx} {pins : List (Addr × Obj)} {σ : St} {H : Hp} {s : Shared}
theorem reads_pairs (I : Inv X pins σ H s) : ∀ (g : List (Int × Int)) (xs : List (List Key × Addr × Value)), Paired (fun (p : List Key × V) (q : List Key × Addr × Value) => p.1 = q.1 ∧ H q.2.1 = some (.tup (p.1.map kV)) ∧ RelV p.2 q.2.2) (dicT g) xs →
    (∃ as, ReadsAll s.heap (xs.map fun x => Value.ref x.2.1) ((dicD g).map (·.1)) as) ∧ ∃ bs, ReadsAll s.heap (xs.map fun x => x.2.2) ((dicD g).map (·.2)) bs
  | [], _, h => by
    cases h
    exact ⟨⟨_, ReadsAll.nil⟩, ⟨_, ReadsAll.nil⟩⟩
  | p :: g, _, h => by
    cases h with
    | cons h1 h2 =>
      obtain ⟨⟨as, r1⟩, ⟨bs, r2⟩⟩ := reads_pairs I g _ h2
      obtain ⟨_, e2, e3⟩ := h1
      obtain ⟨its, rv, ⟨o, ho, hc, n, hd⟩, _⟩ := I.tuple (.inl (.inl e2))
      have e4 : ∃ cs, ReadsAll s.heap its [PyData.int p.1, PyData.int p.2] cs := by
        cases rv with
        | cons q1 rv =>
          cases rv with
          | cons q2 rv =>
            cases rv
            obtain ⟨t1, z1⟩ := q1
            obtain ⟨t2, z2⟩ := q2
            subst z1 z2
            exact ⟨_, .cons (.int p.1 t1) (.cons (.int p.2 t2) .nil)⟩
      obtain ⟨cs, e4⟩ := e4
      refine ⟨⟨_, .cons (.tuple ho hc hd e4) r1⟩, ⟨[] ++ bs, .cons (as := []) ?_ r2⟩⟩
      have z : _ = Value.bool true := e3
      dsimp only
      rw [z]
      exact Reads.bool true
theorem reads_dic (I : Inv X pins σ H s) {g : List (Int × Int)} {a : Addr} (h : H a = some (.dT (dicT g))) : ∃ as, Reads s.heap (.ref a) (.dict (dicD g)) as := by
  obtain ⟨_, _, xs, rel, o, es, ep, ho, hx, hdt, he, _⟩ := I.hok a _ h
  obtain ⟨⟨as, r1⟩, ⟨bs, r2⟩⟩ := reads_pairs I g xs rel
  refine ⟨_, Reads.dict ho hx.1 hdt (as := as) (bs := bs) ?_ ?_⟩
  · rw [he, List.map_map]; exact r1
  · rw [he, List.map_map]; exact r2
end
mutual
inductive Dp (K : PySem.W.Frag) (H : Hp) : V → PyData → Prop
  | non : Dp K H .non .none
  | bl (b : Bool) : Dp K H (.bl b) (.bool b)
  | int (i : Int) : Dp K H (.int i) (.int i)
  | str (x : Str) : Dp K H (.str x) (.str x)
  | lst {a : Addr} {xs : List V} {ds : List PyData} : SqL K H a xs → DpAll K H xs ds → Dp K H (.ref a) (.list ds)
  | tup {a : Addr} {xs : List V} {ds : List PyData} : SqT K H a xs → DpAll K H xs ds → Dp K H (.ref a) (.tuple ds)
  | dic {a : Addr} {g : List (Int × Int)} : H a = some (.dT (dicT g)) → Dp K H (.ref a) (.dict (dicD g))
inductive DpAll (K : PySem.W.Frag) (H : Hp) : List V → List PyData → Prop
  | nil : DpAll K H [] []
  | cons {v : V} {vs : List V} {d : PyData} {ds : List PyData} : Dp K H v d → DpAll K H vs ds → DpAll K H (v :: vs) (d :: ds)
end
section
variable {X : Cx} {pins : List (Addr × Obj)} {σ : St} {H : Hp} {s : Shared}
mutual
theorem Dp.reads (I : Inv X pins σ H s) : ∀ (d : PyData) (v : V) (u : Value), Dp X.K H v d → RelV v u → ∃ as, Reads s.heap u d as
  | .none, _, _, h, r => by
    cases h
    cases r
    exact ⟨_, Reads.none⟩
  | .bool b, _, _, h, r => by
    cases h
    cases r
    exact ⟨_, Reads.bool b⟩
  | .int i, _, _, h, r => by
    cases h
    obtain ⟨t, rfl⟩ := r
    exact ⟨_, Reads.int i t⟩
  | .str x, _, _, h, r => by
    cases h
    obtain ⟨t, rfl⟩ := r
    exact ⟨_, Reads.str x t⟩
  | .list ds, _, _, h, r => by
    cases h with
    | lst hs ha =>
      cases r
      obtain ⟨its, rv, ⟨o, n, ho, hc, _, hd⟩, _⟩ := I.list hs
      obtain ⟨as, hr⟩ := Dp.readsAll I ds _ its ha rv
      exact ⟨_, Reads.list ho hc hd hr⟩
  | .tuple ds, _, _, h, r => by
    cases h with
    | tup hs ha =>
      cases r
      obtain ⟨its, rv, ⟨o, ho, hc, n, hd⟩, _⟩ := I.tuple hs
      obtain ⟨as, hr⟩ := Dp.readsAll I ds _ its ha rv
      exact ⟨_, Reads.tuple ho hc hd hr⟩
  | .dict _, _, _, h, r => by
    cases h with
    | dic hs =>
      cases r
      exact reads_dic I hs
theorem Dp.readsAll (I : Inv X pins σ H s) : ∀ (ds : List PyData) (vs : List V) (us : List Value), DpAll X.K H vs ds → Vals vs us → ∃ as, ReadsAll s.heap us ds as
  | [], _, _, h, r => by
    cases h
    cases r
    exact ⟨_, ReadsAll.nil⟩
  | d :: ds, _, _, h, r => by
    cases h with
    | cons h1 h2 =>
      cases r with
      | cons r1 r2 =>
        obtain ⟨as, q1⟩ := Dp.reads I d _ _ h1 r1
        obtain ⟨bs, q2⟩ := Dp.readsAll I ds _ _ h2 r2
        exact ⟨_, ReadsAll.cons q1 q2⟩
end
end
section
variable {X : Cx}
end
end L2
namespace L2
open PySem PySem.Spec PyProof.Rows
structure BlkOk (N : List Str) (sc scope : Scope) (own : List (Str × Nat)) : Prop where
  kind : scope.kind = .function
  uniq : ∀ y ∈ scope.names, scope.names.lookup y.1 = some y.2
  ix : ∀ p ∈ own, N[p.2]? = some p.1
  free : ∀ y ∈ scope.names, y.2 = .free → sc.names.lookup y.1 = some .cell ∨ sc.names.lookup y.1 = some .free
  own : ∀ y ∈ scope.names, y.2 = .local ∨ y.2 = .cell → y.1 ∈ own.map (·.1) ∨ y.1 ∉ N
section
variable {X : Cx} {pins : List (Addr × Obj)} {σ : St} {H : Hp} {s : Shared}
end
section
variable {X : Cx}
end
end L2
namespace L2
open PySem PySem.Spec PyProof.Rows
section
variable {prog : Program} {w : World} {A : Around} {R : Result → Shared → Prop} {s : Shared} {elt t0 i0 t1 i1 : Expr} {ifs0 ifs1 : List Expr} {scope : Scope} {pos : Pos} {it acc : Value} {env : Env}
end
section
variable {X : Cx}
end
end L2
namespace L2
open PySem PySem.Spec PyProof.Rows
section
variable {κ : Type} [DecidableEq κ]
def valV (kvs : List (κ × V)) (k : κ) : Option V := (kvs.find? fun kv => decide (kv.1 = k)).map (·.2)
def putK (kvs : List (κ × V)) (k : κ) (v : V) : List (κ × V) :=
  if (kvs.any fun kv => decide (kv.1 = k)) = true then kvs.map (fun kv => if kv.1 = k then (kv.1, v) else kv) else kvs ++ [(k, v)]
def dropK (kvs : List (κ × V)) (k : κ) : List (κ × V) := kvs.filter fun kv => decide (kv.1 ≠ k)
theorem valV_nil {k : κ} : valV ([] : List (κ × V)) k = none := rfl
theorem valV_pos {p : κ × V} {r : List (κ × V)} {k : κ} (e : p.1 = k) : valV (p :: r) k = some p.2 := by simp [valV, List.find?_cons, e]
theorem valV_neg {p : κ × V} {r : List (κ × V)} {k : κ} (e : ¬ p.1 = k) : valV (p :: r) k = valV r k := by simp [valV, List.find?_cons, e]
theorem RelO.getD {o : Option V} {u : Option Value} {d : V} {d' : Value} (r : RelO o u) (rd : RelV d d') : RelV (o.getD d) (u.getD d') := by
  cases o with
  | none => cases u with
    | none => exact rd
    | some _ => exact (show False from r).elim
  | some _ => cases u with
    | none => exact (show False from r).elim
    | some _ => exact r
theorem KV.val {kvs : List (κ × V)} {vs : List (κ × Value)} (r : KV kvs vs) (k : κ) : RelO (valV kvs k) (valueAt vs k) := by
  unfold KV at r
  induction r with
  | nil => exact True.intro
  | @cons p q ps qs h t ih =>
    obtain ⟨h1, h2⟩ := h
    by_cases e : p.1 = k
    · have e' : q.1 = k := h1.symm.trans e
      have b : valueAt (q :: qs) k = some q.2 := by simp [valueAt, List.find?_cons, e']
      rw [valV_pos e, b]; exact h2
    · have e' : ¬ q.1 = k := fun z => e (h1.trans z)
      have b : valueAt (q :: qs) k = valueAt qs k := by simp [valueAt, List.find?_cons, e']
      rw [valV_neg e, b]; exact ih
theorem KV.any {kvs : List (κ × V)} {vs : List (κ × Value)} (r : KV kvs vs) (k : κ) : (kvs.any fun kv => decide (kv.1 = k)) = vs.any fun kv => decide (kv.1 = k) := by
  unfold KV at r
  induction r with
  | nil => rfl
  | cons h t ih => rw [List.any_cons, List.any_cons, ih, h.1]
theorem KV.drop {kvs : List (κ × V)} {vs : List (κ × Value)} (r : KV kvs vs) (k : κ) : KV (dropK kvs k) (without vs k) := by
  unfold KV at r ⊢
  unfold dropK without
  induction r with
  | nil => exact .nil
  | @cons p q ps qs h t ih =>
    obtain ⟨h1, h2⟩ := h
    rw [List.filter_cons, List.filter_cons]
    by_cases e : p.1 = k
    · have a : ¬ decide (p.1 ≠ k) = true := by simp [e]
      have b : ¬ decide (q.1 ≠ k) = true := by simp [h1.symm.trans e]
      rw [if_neg a, if_neg b]; exact ih
    · have e' : ¬ q.1 = k := fun z => e (h1.trans z)
      have a : decide (p.1 ≠ k) = true := by simp [e]
      have b : decide (q.1 ≠ k) = true := by simp [e']
      rw [if_pos a, if_pos b]; exact .cons ⟨h1, h2⟩ ih
theorem KV.keys {kvs : List (κ × V)} {vs : List (κ × Value)} (r : KV kvs vs) : kvs.map (·.1) = vs.map (·.1) := by
  unfold KV at r
  induction r with
  | nil => rfl
  | cons h t ih => rw [List.map_cons, List.map_cons, ih, h.1]
theorem KV.length {kvs : List (κ × V)} {vs : List (κ × Value)} (r : KV kvs vs) : kvs.length = vs.length := Paired.length r
end
abbrev KT (H : Hp) : List (List Key × V) → List (List Key × Addr × Value) → Prop := Paired fun p q => p.1 = q.1 ∧ H q.2.1 = some (.tup (p.1.map kV)) ∧ RelV p.2 q.2.2
theorem KT.val {H : Hp} {kvs : List (List Key × V)} {xs : List (List Key × Addr × Value)} (r : KT H kvs xs) (k : List Key) : RelO (valV kvs k) ((atKey xs k).map (·.2)) := by
  induction r with
  | nil => exact True.intro
  | @cons p q ps qs h t ih =>
    obtain ⟨h1, _, h2⟩ := h
    by_cases e : p.1 = k
    · have e' : q.1 = k := h1.symm.trans e
      have b : atKey (q :: qs) k = some q.2 := by simp [atKey, List.find?_cons, e']
      rw [valV_pos e, b]; exact h2
    · have e' : ¬ q.1 = k := fun z => e (h1.trans z)
      have b : atKey (q :: qs) k = atKey qs k := by simp [atKey, List.find?_cons, e']
      rw [valV_neg e, b]; exact ih
theorem KT.keeps {H H' : Hp} {kvs : List (List Key × V)} {xs : List (List Key × Addr × Value)} (r : KT H kvs xs) (ht : ∀ b ys, H b = some (.tup ys) → H' b = some (.tup ys)) : KT H' kvs xs :=
  Paired.mapP r fun _ _ z => ⟨z.1, ht _ _ z.2.1, z.2.2⟩
section
variable {P : Program} {w : World} {H : Hp} {h : Heap} {a : Addr}
end
def DGet (H : Hp) (a : Addr) (y : V) (r : Option V) : Prop :=
  (∃ kvs k, Rd H a (.dK kvs) ∧ y = kV k ∧ r = valV kvs k) ∨ ∃ kvs k b, Rd H a (.dT kvs) ∧ y = .ref b ∧ H b = some (.tup (k.map kV)) ∧ r = valV kvs k
def DPut (H : Hp) (a : Addr) (y v : V) (H' : Hp) : Prop :=
  (∃ kvs k, H a = some (.dK kvs) ∧ y = kV k ∧ kvs.length < sizeLine ∧ H' = upd H a (.dK (putK kvs k v))) ∨
  ∃ kvs k b, H a = some (.dT kvs) ∧ y = .ref b ∧ H b = some (.tup (k.map kV)) ∧ kvs.length < sizeLine ∧ H' = upd H a (.dT (putK kvs k v))
theorem DGet.k {H : Hp} {a : Addr} {kvs : List (Key × V)} {k : Key} (e : H a = some (.dK kvs)) : DGet H a (kV k) (valV kvs k) := .inl ⟨kvs, k, .inl e, rfl, rfl⟩
theorem DGet.t {H : Hp} {a b : Addr} {kvs : List (List Key × V)} {k : List Key} (e : H a = some (.dT kvs)) (eb : H b = some (.tup (k.map kV))) : DGet H a (.ref b) (valV kvs k) := .inr ⟨kvs, k, b, .inl e, rfl, eb, rfl⟩
theorem DPut.k {H : Hp} {a : Addr} {kvs : List (Key × V)} {k : Key} {v : V} (e : H a = some (.dK kvs)) (hl : kvs.length < sizeLine) : DPut H a (kV k) v (upd H a (.dK (putK kvs k v))) := .inl ⟨kvs, k, e, rfl, hl, rfl⟩
theorem DPut.t {H : Hp} {a b : Addr} {kvs : List (List Key × V)} {k : List Key} {v : V} (e : H a = some (.dT kvs)) (eb : H b = some (.tup (k.map kV))) (hl : kvs.length < sizeLine) :
    DPut H a (.ref b) v (upd H a (.dT (putK kvs k v))) := .inr ⟨kvs, k, b, e, rfl, eb, hl, rfl⟩
section
variable {X : Cx} {pins : List (Addr × Obj)} {σ : St} {H : Hp} {s : Shared} {a : Addr} {y v : V} {u r : Value} {o : Option V} {A : Around} {E : Value → Shared → Prop}
theorem Inv.big (I : Inv X pins σ H s) : sysModules < s.heap.objs.size := by
  have h : mainGlobals < s.heap.objs.size := (I.mod.glob.keeps I.bk).lt
  exact Nat.lt_trans (by decide) h
end
section
variable {X : Cx} {pins : List (Addr × Obj)} {σ : St} {H : Hp} {s : Shared} {a : Addr} {kvs : List (Key × V)} {k : Key} {u : Value} {A : Around} {E : Value → Shared → Prop}
end
section
variable {X : Cx} {o i e value : Expr} {pos pos' tpos : Pos} {td ty tv : TE}
end
section
variable {X : Cx} {pos : Pos}
end
structure M1 (X : Cx) (o : Expr) (m : Str) (apos : Pos) (e : Expr) (cpos : Pos) : Prop where
  base : attributeBase o m X.env (eval o X.env) = eval o X.env
  few : ((backTo cpos (starEach [e] X.env)).all (fun x => !x.1) && (backToKw cpos (keywordEach [] X.env)).all (fun x => x.1.isSome)
    && decide (([e] : List Expr).length + ([] : List Keyword).length + (if ([] : List Keyword).isEmpty then 0 else 1) < 30)) = true
  line : (apos.endLine == cpos.line) = true
  trees : backTo cpos (starEach [e] X.env) = [(false, eval e X.env)]
structure M2 (X : Cx) (o : Expr) (m : Str) (apos : Pos) (e f : Expr) (cpos : Pos) : Prop where
  base : attributeBase o m X.env (eval o X.env) = eval o X.env
  few : ((backTo cpos (starEach [e, f] X.env)).all (fun x => !x.1) && (backToKw cpos (keywordEach [] X.env)).all (fun x => x.1.isSome)
    && decide (([e, f] : List Expr).length + ([] : List Keyword).length + (if ([] : List Keyword).isEmpty then 0 else 1) < 30)) = true
  line : (apos.endLine == cpos.line) = true
  trees : backTo cpos (starEach [e, f] X.env) = [(false, eval e X.env), (false, eval f X.env)]
section
variable {X : Cx} {pins : List (Addr × Obj)} {σ : St} {H : Hp} {s : Shared} {a : Addr} {y d : V} {u r : Value} {o : Option V} {A : Around} {E : Value → Shared → Prop}
end
section
variable {X : Cx} {o e f : Expr} {apos cpos : Pos} {td ty tx : TE}
end
section
variable {X : Cx} {pins : List (Addr × Obj)} {σ : St} {H : Hp} {s : Shared} {a : Addr} {kvs : List (Key × V)} {A : Around} {E : Value → Shared → Prop}
end
section
variable {X : Cx} {pins : List (Addr × Obj)} {σ : St} {H : Hp} {s : Shared} {a : Addr} {y : V} {u : Value} {A : Around} {E : Value → Shared → Prop}
end
end L2
namespace L2
open PySem PySem.Spec PyProof.Rows
section
variable {prog : Program} {w : World} {A : Around} {E : Value → Shared → Prop}
end
section
variable {X : Cx}
end
end L2
namespace L2
open PySem PySem.Spec PyProof.Rows
section
variable {X : Cx} {pins : List (Addr × Obj)} {σ : St} {H : Hp} {s : Shared} {h' : Heap}
end
section
variable {X : Cx}
end
def RgC (i j c : Int) (n : Nat) : Prop := c ≠ 0 ∧ c.natAbs < 1073741824 ∧ Builtin.Range.small i j c = true ∧ Builtin.Range.rangeSize i j c = n
theorem RgC.neg {i j : Int} (ha : -(2 ^ 62) ≤ i) (ha' : i < 2 ^ 62) (hb : -(2 ^ 62) ≤ j) (hb' : j < 2 ^ 62) : RgC i j (-1) (i - j).toNat :=
  ⟨by decide, by decide, PySem.W.small_down ha ha' hb hb', PySem.W.rangeSize_downNat i j⟩
section
variable {X : Cx} {tg : Expr}
end
section
variable {X : Cx} {tg : Expr}
end
section
variable {prog : Program} {w : World} {A : Around} {E : Value → Shared → Prop} {s : Shared}
end
section
variable {X : Cx} {pins : List (Addr × Obj)} {σ : St} {H : Hp} {s : Shared} {d : Addr} {o : Obj}
end
section
variable {P : Program} {w : World} {K : PySem.W.Frag} {tg : Expr} {d : Addr} {o : Obj} {es : Array DictEntry} {ep : Nat}
end
section
variable {X : Cx} {tg e : Expr} {td : TE} {apos cpos : Pos}
end
end L2
section 
namespace Bits
open PySem PyProof.Rows
end Bits
end 
section 
namespace TL
open PySem PySem.Builtin PySem.Builtin.Str PySem.StrLaws
abbrev tl (x : Str) : List Nat := x.cps.toList
theorem len_tl (x : Str) : x.length = (tl x).length := by simp [tl, Str.length]
def pre (S l : List Nat) : Bool := l.take S.length == S
def par (S : List Nat) : List Nat → List Nat → Option (List Nat × List Nat)
  | _, [] => none
  | acc, c :: r => if pre S (c :: r) = true then some (acc, (c :: r).drop S.length) else par S (acc ++ [c]) r
theorem pre_nil {S : List Nat} (hS : S ≠ []) : pre S [] = false := by
  cases S with
  | nil => exact absurd rfl hS
  | cons s S => rfl
end TL
end 
namespace L2
open PySem PySem.Spec PyProof.Rows
section
variable {X : Cx} {pins : List (Addr × Obj)} {σ : St} {H : Hp} {s : Shared} {Q : VK}
end
section
variable {X : Cx}
end
section
variable {X : Cx} {o e : Expr} {to te : TE}
end
end L2
namespace L2
open PySem PySem.Spec PyProof.Rows
section
variable {X : Cx}
end
end L2
namespace Att
open PySem PySem.W PySem.Calls PyProof.Rows
section
variable {prog : Program} {w : World} {A : Around} {E : Value → Shared → Prop} {s : Shared} {K : Frag}
end
end Att
namespace L2
open PySem PySem.Spec PyProof.Rows
end L2
namespace L2
open PySem PySem.Spec PyProof.Rows
end L2
/- THE LAST THEOREM (shape; LID, My.* are yours):
   My.Adr: a structure of the addresses that your layer names (classes, functions); My.Txt K t: a structure (Prop) of the equations over K;
   My.txt_mk : {K} {implicit addresses ..} (e1 : nsIn K mainGlobals "law" = some (some (.ref f))) (e2 : K.lookup f = some ⟨oc, od, .func (fnOf "law" "law" params body scope dV kV doc pm an cdv ct), sl⟩) (e3 : codeIn K cdv "law" = true) .. : ∃ t, My.Txt K t
(the tactic k_is has no namespace: write k_is) -/
namespace L2
open PySem PySem.Spec PyProof.Rows
def defArgs (s : Stmt) : Arguments := match s with
  | .FunctionDef _ a _ _ _ _ _ _ _ _ => a
  | _ => { posonlyargs := [], args := [], vararg := none, kwonlyargs := [], kw_defaults := [], kwarg := none, defaults := [] }
def defBody (s : Stmt) : List Stmt := match s with
  | .FunctionDef _ _ b _ _ _ _ _ _ _ => b
  | _ => []
def defScope (s : Stmt) : Scope := match s with
  | .FunctionDef _ _ _ _ _ _ sc _ _ _ => sc
  | _ => { kind := .function, names := [], isGenerator := false, isCoroutine := false }
abbrev CX0 : CXT := fun _ _ _ _ _ _ => False
abbrev E0 : XK := fun _ _ _ => False
structure Fun (K : PySem.W.Frag) (x qual : Str) (st : Stmt) (f : Addr) (fd : FuncData) : Prop where
  ex : ∃ (oc : Value) (od : Option Addr) (kV doc pm : Value) (an : Option Addr) (cdv ct : Value) (osl : Array (Option Value)),
    fd = PySem.W.fnOf x qual (defArgs st) (defBody st) (defScope st) .none kV doc pm an cdv ct ∧ K.lookup f = some ⟨oc, od, .func fd, osl⟩ ∧ PySem.W.codeIn K cdv qual = true
  kp : PySem.W.keepIn K (.ref f) = true
section
variable {P : Program} {w : World} {K : PySem.W.Frag} {mg : Str → Option Value} {base : Heap}
theorem Fun.ok {x qual : Str} {st : Stmt} {f : Addr} {fd : FuncData} {N ps : List Str} {k : Nat} {sp : Sp} (F : Fun K x qual st f fd) (S : FnScope N ps (defScope st)) (len : ∀ vs H Q E, sp vs H Q E → vs.length = ps.length)
    (hbody : ∀ (cdv : Value) (A : Around) (outer : List Env) (s : Shared) (H : Hp) (vs : List V) (Q : VK) (E : XK), Room k (A.deeper (envOfC qual (defScope st) s.heap.objs.size f cdv)) → sp vs H Q E →
      ∃ t, PSs (cxOf CX0 P w K mg base N qual (defScope st) f cdv A outer s H E).nox (defBody st) t ∧ t { nx := fun _ H' => Q .non H', rt := Q } (start N vs) H) : FnOk P w K mg base CX0 (k + 1) f fd ps sp := by
  obtain ⟨oc, od, kV, doc, pm, an, cdv, ct, osl, rfl, lk, hcd⟩ := F.ex
  refine fn_of lk hcd S len fun A outer s H vs Q E hr hsp => ?_
  obtain ⟨t, h, q⟩ := hbody cdv A outer s H vs Q E hr hsp
  exact ⟨t, h.nox, q⟩
theorem Fun.binds {x qual : Str} {st : Stmt} {f : Addr} {fd : FuncData} {ps : List Str} (F : Fun K x qual st f fd)
    (h : ∀ (kV doc pm : Value) (an : Option Addr) (cdv ct : Value) (us : List Value), us.length = ps.length → bindArgs (PySem.W.fnOf x qual (defArgs st) (defBody st) (defScope st) .none kV doc pm an cdv ct) ⟨us, []⟩ = pure (ps.zip us)) : Binds K fd ps [] := by
  obtain ⟨oc, od, kV, doc, pm, an, cdv, ct, osl, rfl, lk, hcd⟩ := F.ex
  exact .all (h kV doc pm an cdv ct)
end
section
variable {X : Cx}
end
def Same (H H' : Hp) : Prop := ∀ b o, H b = some o → H' b = some o
theorem Same.refl (H : Hp) : Same H H := fun _ _ h => h
theorem Same.trans {H H1 H2 : Hp} (a : Same H H1) (b : Same H1 H2) : Same H H2 := fun c o h => b c o (a c o h)
theorem Same.free {H H' : Hp} (e : Same H H') {l : Addr} (h : H' l = Option.none) : H l = Option.none := by
  cases q : H l with
  | none => rfl
  | some o =>
    rw [e l o q] at h
    cases h
theorem Same.seq {K : PySem.W.Frag} {H H' : Hp} {a : Addr} {xs : List V} (e : Same H H') (h : SqL K H a xs) : SqL K H' a xs := by
  rcases h with (h | ⟨o, h⟩) | h
  · exact .inl (.inl (e _ _ h))
  · exact .inl (.inr ⟨o, e _ _ h⟩)
  · exact .inr h
section
variable {κ : Type} [DecidableEq κ]
end
end L2
set_option maxHeartbeats 4000000
namespace Bd
open PySem PySem.Spec
def Up (xs : Array Nat) : Prop := ∀ (i k a b : Nat), i < k → xs[i]? = some a → xs[k]? = some b → a < b
structure Tab (b : Bool) (t : SetTable) : Prop where
  led : t.led = b
  dum : t.dummies = #[]
  up : Up t.place
end Bd
namespace Bd
open PySem PySem.Spec
def kOf : Value → Int
  | .int i _ => i
  | _ => 0
def IntEs (es : List (Int × Value)) : Prop := ∀ e ∈ es, ∃ (k : Int) (tk : Tok), e.2 = Value.int k tk ∧ e.1 = hashInt k
def SetP (b : Bool) (h : Heap) (a : Addr) (ks : List Int) : Prop :=
  ∃ o es ep t, h.get? a = some o ∧ o.ExactSet ∧ o.data = Data.set es ep t ∧ IntEs es.toList ∧ (es.toList.map fun e => kOf e.2).Perm ks ∧ es.size < scanBound ∧ t.fits es.size = true ∧ Tab b t
section
variable {prog : Program} {w : World} {A : Around} {E : Value → Shared → Prop} {s : Shared} {b : Bool} {a : Addr} {ks : List Int}
theorem is_kOf {v : Value} {k i : Int} {tk : Tok} (e : v = .int i tk) : (intKind prog w).is k v = decide (i = k) := by
  subst e
  show Value.isInt k (.int i tk) = decide (i = k)
  simp only [Value.isInt]
  rcases Decidable.em (i = k) with q | q
  · subst q; simp
  · simp [q]
theorem IntEs.mem_iff {es : List (Int × Value)} (h : IntEs es) (k : Int) : k ∈ (es.map fun e => kOf e.2) ↔ ∃ e ∈ es, (intKind prog w).is k e.2 = true := by
  rw [List.mem_map]
  constructor
  · rintro ⟨e, he, q⟩
    obtain ⟨i, tk, e1, _⟩ := h e he
    refine ⟨e, he, ?_⟩
    rw [is_kOf e1, decide_eq_true_eq]
    rw [e1] at q; exact q
  · rintro ⟨e, he, q⟩
    obtain ⟨i, tk, e1, _⟩ := h e he
    rw [is_kOf e1, decide_eq_true_eq] at q
    exact ⟨e, he, by rw [e1]; exact q⟩
theorem SetP.keep {h h' : Heap} (x : SetP b h a ks) (k : ∀ o, h.get? a = some o → h'.get? a = some o) : SetP b h' a ks := by
  obtain ⟨o, es, ep, t, h1, r⟩ := x
  exact ⟨o, es, ep, t, k o h1, r⟩
theorem SetP.lt {h : Heap} (x : SetP b h a ks) : a < h.objs.size := by
  obtain ⟨o, es, ep, t, h1, _⟩ := x; exact Heap.lt_size h1
end
end Bd
namespace Bd
open PySem PySem.Spec
def addK (ks : List Int) (k : Int) : List Int := if k ∈ ks then ks else ks ++ [k]
def uniq (ns : List Int) : List Int := ns.foldl addK []
theorem addK_nodup {ks : List Int} (h : ks.Nodup) (k : Int) : (addK ks k).Nodup := by
  unfold addK; split
  · exact h
  · next q => rw [List.nodup_append]; exact ⟨h, by simp, fun a ha b hb => by simp at hb; subst hb; intro e; subst e; exact q ha⟩
theorem foldl_addK_nodup : ∀ (ns ks : List Int), ks.Nodup → (ns.foldl addK ks).Nodup
  | [], ks, h => h
  | n :: ns, ks, h => foldl_addK_nodup ns _ (addK_nodup h n)
theorem uniq_nodup (ns : List Int) : (uniq ns).Nodup := foldl_addK_nodup ns [] List.nodup_nil
theorem mem_addK {ks : List Int} {k x : Int} : x ∈ addK ks k ↔ x ∈ ks ∨ x = k := by
  unfold addK; split
  · next q => exact ⟨.inl, fun h => h.elim id fun e => e ▸ q⟩
  · rw [List.mem_append, List.mem_singleton]
theorem mem_foldl_addK {x : Int} : ∀ (ns ks : List Int), x ∈ ns.foldl addK ks ↔ x ∈ ks ∨ x ∈ ns
  | [], ks => by simp
  | n :: ns, ks => by rw [List.foldl_cons, mem_foldl_addK ns, mem_addK, List.mem_cons, or_assoc]
theorem mem_uniq {x : Int} {ns : List Int} : x ∈ uniq ns ↔ x ∈ ns := by unfold uniq; rw [mem_foldl_addK]; simp
section
variable {prog : Program} {w : World} {A : Around} {R : Result → Shared → Prop} {I : Addr} {fp wr : List Addr} {G : Array GenState → Array GenState → Prop} {P : Nat → Value → Prop} {St : Nat → Shared → Prop} {b : Bool}
end
section
variable {prog : Program} {w : World} {A : Around} {E : Value → Shared → Prop} {s : Shared}
abbrev ledOf (w : World) : Bool := !w.params.followText "set-order"
end
end Bd
namespace Bd
open PySem PySem.Spec
section
variable {prog : Program} {w : World} {A : Around} {E : Value → Shared → Prop} {s : Shared}
end
end Bd
namespace Bd
open PySem PySem.Spec
def ItAt (h : Heap) (I S : Addr) (f : Value) (i n ep : Nat) : Prop := ∃ o, h.get? I = some o ∧ o.cls = .type "set_iterator" ∧ o.data = .fields #[f, .int i 0, .ref S, .int n 0, .int ep 0]
structure SetAt (h : Heap) (S : Addr) (es : Array (Int × Value)) (ep : Nat) (t : SetTable) : Prop where
  ex : ∃ o, h.get? S = some o ∧ o.ExactSet ∧ o.data = .set es ep t
  fits : t.fits es.size = true
theorem SetAt.keep {h h' : Heap} {S : Addr} {es : Array (Int × Value)} {ep : Nat} {t : SetTable} (x : SetAt h S es ep t) (k : ∀ o, h.get? S = some o → h'.get? S = some o) : SetAt h' S es ep t :=
  let ⟨⟨o, h1, h2⟩, f⟩ := x; ⟨⟨o, k o h1, h2⟩, f⟩
section
variable {prog : Program} {w : World} {A : Around} {E : Value → Shared → Prop} {s : Shared} {I S : Addr} {es : Array (Int × Value)} {ep : Nat} {t : SetTable}
end
end Bd
namespace Bd
open PySem PySem.Spec
section
variable {prog : Program} {w : World} {A : Around} {E : Value → Shared → Prop} {s : Shared} {I S : Addr} {es : Array (Int × Value)} {ep : Nat} {t : SetTable}
end
end Bd
namespace Bd
open PySem PySem.Spec
section
variable {prog : Program} {w : World} {A : Around} {E : Value → Shared → Prop} {s : Shared} {I S : Addr} {es : Array (Int × Value)} {ep : Nat} {t : SetTable}
end
end Bd
namespace Bd
open PySem PySem.Spec
section
variable {prog : Program} {w : World} {A : Around} {E : Value → Shared → Prop} {s : Shared} {I S T : Addr} {es : Array (Int × Value)} {ep : Nat} {t : SetTable}
theorem ItAt.keep {h h' : Heap} {f : Value} {i n : Nat} (x : ItAt h I S f i n ep) (k : ∀ o, h.get? I = some o → h'.get? I = some o) : ItAt h' I S f i n ep := let ⟨o, h1, r⟩ := x; ⟨o, k o h1, r⟩
end
end Bd
namespace Bd
open PySem PySem.Spec
section
variable {prog : Program} {w : World} {A : Around} {E : Value → Shared → Prop} {s : Shared} {I S T : Addr} {es : Array (Int × Value)} {ep : Nat} {t : SetTable}
end
end Bd
namespace Bd
open PySem PySem.Spec PyProof.Rows
section
variable {prog : Program} {w : World} {A : Around} {E : Value → Shared → Prop} {s : Shared} {S : Addr} {ks : List Int}
end
end Bd
namespace Bd
open PySem L2
def SetO (w : World) (p : Addr) (ks : List Int) : HO := .ext fun h => SetP (ledOf w) h p ks
section
variable {X : Cx} {pins : List (Addr × Obj)} {σ : St} {H : Hp} {s s' : Shared}
end
end Bd
namespace Bd
open PySem PySem.Spec
def bst : Option Int → Int → Option Int
  | none, n => some n
  | some m, n => if m < n then some n else some m
def maxOpt (ns : List Int) : Option Int := ns.foldl bst none
section
variable {prog : Program} {w : World} {A : Around} {R : Result → Shared → Prop} {I : Addr} {fp wr : List Addr} {G : Array GenState → Array GenState → Prop} {P : Nat → Value → Prop} {St : Nat → Shared → Prop}
end
end Bd
namespace Bd
open PySem PySem.Spec
section
variable {prog : Program} {w : World} {A : Around} {E : Value → Shared → Prop} {s : Shared}
end
end Bd
namespace Bd
open PySem L2
section
variable {X : Cx}
end
end Bd
namespace L2
open PySem
theorem same_sqT {K : PySem.W.Frag} {H H' : Hp} {a : Addr} {xs : List V} (e : Same H H') (h : SqT K H a xs) : SqT K H' a xs := by
  rcases h with (h | ⟨o, h⟩) | h
  · exact .inl (.inl (e _ _ h))
  · exact .inl (.inr ⟨o, e _ _ h⟩)
  · exact .inr h
mutual
theorem dp_mono {K : PySem.W.Frag} {H H' : Hp} (e : Same H H') : ∀ {v : V} {d : PyData}, Dp K H v d → Dp K H' v d
  | _, _, .non => .non
  | _, _, .bl b => .bl b
  | _, _, .int i => .int i
  | _, _, .str x => .str x
  | _, _, .lst h ha => .lst (e.seq h) (dpAll_mono e ha)
  | _, _, .tup h ha => .tup (same_sqT e h) (dpAll_mono e ha)
  | _, _, .dic h => .dic (e _ _ h)
theorem dpAll_mono {K : PySem.W.Frag} {H H' : Hp} (e : Same H H') : ∀ {vs : List V} {ds : List PyData}, DpAll K H vs ds → DpAll K H' vs ds
  | _, _, .nil => .nil
  | _, _, .cons h ha => .cons (dp_mono e h) (dpAll_mono e ha)
end
theorem DpAll.length {K : PySem.W.Frag} {H : Hp} : ∀ {vs : List V} {ds : List PyData}, DpAll K H vs ds → vs.length = ds.length
  | _, _, .nil => rfl
  | _, _, .cons _ h => by rw [List.length_cons, List.length_cons, DpAll.length h]
theorem DpAll.get {K : PySem.W.Frag} {H : Hp} : ∀ {vs : List V} {ds : List PyData} {i : Nat} {v : V}, DpAll K H vs ds → vs[i]? = some v → ∃ d, ds[i]? = some d ∧ Dp K H v d
  | _, _, _, _, .nil, e => by simp at e
  | _, _, 0, _, .cons h _, e => by simp at e; subst e; exact ⟨_, rfl, h⟩
  | _, _, i + 1, v, .cons _ t, e => by
    obtain ⟨d, h1, h2⟩ := DpAll.get (i := i) (v := v) t (by simpa using e)
    exact ⟨d, by simpa using h1, h2⟩
theorem DpAll.get' {K : PySem.W.Frag} {H : Hp} : ∀ {vs : List V} {ds : List PyData} {i : Nat} {d : PyData}, DpAll K H vs ds → ds[i]? = some d → ∃ v, vs[i]? = some v ∧ Dp K H v d
  | _, _, _, _, .nil, e => by simp at e
  | _, _, 0, _, .cons h _, e => by simp at e; subst e; exact ⟨_, rfl, h⟩
  | _, _, i + 1, v, .cons _ t, e => by
    obtain ⟨d, h1, h2⟩ := DpAll.get' (i := i) (d := v) t (by simpa using e)
    exact ⟨d, by simpa using h1, h2⟩
theorem DpAll.append {K : PySem.W.Frag} {H : Hp} : ∀ {vs ws : List V} {ds es : List PyData}, DpAll K H vs ds → DpAll K H ws es → DpAll K H (vs ++ ws) (ds ++ es)
  | _, _, _, _, .nil, h => h
  | _, _, _, _, .cons a b, h => .cons a (DpAll.append b h)
theorem DpAll.snoc {K : PySem.W.Frag} {H : Hp} {vs : List V} {ds : List PyData} {v : V} {d : PyData} (h : DpAll K H vs ds) (k : Dp K H v d) : DpAll K H (vs ++ [v]) (ds ++ [d]) := h.append (.cons k .nil)
theorem DpAll.take {K : PySem.W.Frag} {H : Hp} : ∀ {vs : List V} {ds : List PyData} (n : Nat), DpAll K H vs ds → DpAll K H (vs.take n) (ds.take n)
  | _, _, 0, _ => .nil
  | _, _, _ + 1, .nil => .nil
  | _, _, n + 1, .cons r t => .cons r (DpAll.take n t)
theorem DpAll.drop {K : PySem.W.Frag} {H : Hp} : ∀ {vs : List V} {ds : List PyData} (n : Nat), DpAll K H vs ds → DpAll K H (vs.drop n) (ds.drop n)
  | _, _, 0, r => r
  | _, _, _ + 1, .nil => .nil
  | _, _, n + 1, .cons _ t => DpAll.drop n t
theorem DpAll.set {K : PySem.W.Frag} {H : Hp} {v : V} {d : PyData} (k : Dp K H v d) : ∀ {vs : List V} {ds : List PyData} (i : Nat), DpAll K H vs ds → DpAll K H (vs.set i v) (ds.set i d)
  | _, _, _, .nil => .nil
  | _, _, 0, .cons _ t => .cons k t
  | _, _, i + 1, .cons q t => .cons q (DpAll.set k i t)
theorem DpAll.ints {K : PySem.W.Frag} {H : Hp} : ∀ {vs : List V} {ns : List Int}, DpAll K H vs (ns.map PyData.int) → vs = ns.map V.int
  | _, [], .nil => rfl
  | _, n :: ns, .cons h t => by cases h; rw [DpAll.ints t]; rfl
end L2
namespace Bd
open PySem L2
noncomputable section
theorem big_ex (n : Nat) : ∃ x, x = n := ⟨n, rfl⟩
def big (n : Nat) : Nat := Classical.choose (big_ex n)
theorem big_eq (n : Nat) : big n = n := Classical.choose_spec (big_ex n)
inductive Sl where
  | fz (d : PyData) | ow (xs : List PyData)
abbrev En := List (Option Sl)
def Sl.d : Sl → PyData
  | .fz d => d
  | .ow xs => .list xs
def SlV (K : PySem.W.Frag) (F H : Hp) : Sl → V → Prop
  | .fz d, v => Dp K F v d
  | .ow xs, v => ∃ a vs, v = .ref a ∧ F a = none ∧ H a = some (.lst vs) ∧ DpAll K F vs xs
def LkV (K : PySem.W.Frag) (F H : Hp) (v : V) (d : PyData) : Prop := Dp K F v d ∨ ∃ a vs xs, v = .ref a ∧ d = .list xs ∧ F a = none ∧ H a = some (.lst vs) ∧ DpAll K F vs xs
structure Sub (F H F' H' : Hp) : Prop where
  f : Same F F'
  h : Same H H'
  fh : Same F' H'
  o : ∀ a o, H a = some o → F a = none → F' a = none
theorem Sub.refl {F H : Hp} (h : Same F H) : Sub F H F H := ⟨.refl _, .refl _, h, fun _ _ _ h => h⟩
theorem Sub.trans {F H F1 H1 F2 H2 : Hp} (a : Sub F H F1 H1) (b : Sub F1 H1 F2 H2) : Sub F H F2 H2 :=
  ⟨a.f.trans b.f, a.h.trans b.h, b.fh, fun c o h1 h2 => b.o c o (a.h c o h1) (a.o c o h1 h2)⟩
theorem same_new {H : Hp} {p : Addr} {o : HO} (h : H p = none) : Same H (upd H p o) := fun b u e => by
  rw [upd_ne (ne_of_none e h)]; exact e
theorem Sub.newO {F H : Hp} {p : Addr} {o : HO} (h : Same F H) (hp : H p = none) : Sub F H F (upd H p o) :=
  ⟨.refl _, same_new hp, h.trans (same_new hp), fun a u h1 h2 => h2⟩
theorem SlV.mono {K : PySem.W.Frag} {F H F' H' : Hp} {s : Sl} {v : V} (u : Sub F H F' H') (h : SlV K F H s v) : SlV K F' H' s v := by
  cases s with
  | fz d => exact dp_mono u.f h
  | ow xs =>
    obtain ⟨a, vs, rfl, h1, h2, h3⟩ := h
    exact ⟨a, vs, rfl, u.o a _ h2 h1, u.h _ _ h2, dpAll_mono u.f h3⟩
theorem LkV.mono {K : PySem.W.Frag} {F H F' H' : Hp} {d : PyData} {v : V} (u : Sub F H F' H') (h : LkV K F H v d) : LkV K F' H' v d := by
  rcases h with h | ⟨a, vs, xs, rfl, rfl, h1, h2, h3⟩
  · exact .inl (dp_mono u.f h)
  · exact .inr ⟨a, vs, xs, rfl, rfl, u.o a _ h2 h1, u.h _ _ h2, dpAll_mono u.f h3⟩
theorem SlV.lk {K : PySem.W.Frag} {F H : Hp} {s : Sl} {v : V} (h : SlV K F H s v) : LkV K F H v s.d := by
  cases s with
  | fz d => exact .inl h
  | ow xs =>
    obtain ⟨a, vs, rfl, h1, h2, h3⟩ := h
    exact .inr ⟨a, vs, xs, rfl, rfl, h1, h2, h3⟩
theorem LkV.list {K : PySem.W.Frag} {F H : Hp} {v : V} {xs : List PyData} (fh : Same F H) (h : LkV K F H v (.list xs)) : ∃ a vs, v = .ref a ∧ SqL K H a vs ∧ DpAll K F vs xs := by
  rcases h with h | ⟨a, vs, ys, rfl, e, h1, h2, h3⟩
  · cases h with
    | lst h ha => exact ⟨_, _, rfl, fh.seq h, ha⟩
  · cases e; exact ⟨a, vs, rfl, SqL.of h2, h3⟩
theorem LkV.tuple {K : PySem.W.Frag} {F H : Hp} {v : V} {xs : List PyData} (fh : Same F H) (h : LkV K F H v (.tuple xs)) : ∃ a vs, v = .ref a ∧ SqT K H a vs ∧ DpAll K F vs xs := by
  rcases h with h | ⟨a, vs, ys, rfl, e, h1, h2, h3⟩
  · cases h with
    | tup h ha => exact ⟨_, _, rfl, same_sqT fh h, ha⟩
  · cases e
theorem LkV.dp {K : PySem.W.Frag} {F H : Hp} {v : V} {d : PyData} (fh : Same F H) (h : LkV K F H v d) : Dp K H v d := by
  rcases h with h | ⟨a, vs, ys, rfl, rfl, h1, h2, h3⟩
  · exact dp_mono fh h
  · exact .lst (SqL.of h2) (dpAll_mono fh h3)
theorem LkV.int {K : PySem.W.Frag} {F H : Hp} {v : V} {i : Int} (h : LkV K F H v (.int i)) : v = .int i := by
  rcases h with h | ⟨a, vs, ys, rfl, e, _⟩
  · cases h; rfl
  · cases e
theorem LkV.bl {K : PySem.W.Frag} {F H : Hp} {v : V} {i : Bool} (h : LkV K F H v (.bool i)) : v = .bl i := by
  rcases h with h | ⟨a, vs, ys, rfl, e, _⟩
  · cases h; rfl
  · cases e
theorem LkV.str {K : PySem.W.Frag} {F H : Hp} {v : V} {i : Str} (h : LkV K F H v (.str i)) : v = .str i := by
  rcases h with h | ⟨a, vs, ys, rfl, e, _⟩
  · cases h; rfl
  · cases e
theorem LkV.non {K : PySem.W.Frag} {F H : Hp} {v : V} (h : LkV K F H v .none) : v = .non := by
  rcases h with h | ⟨a, vs, ys, rfl, e, _⟩
  · cases h; rfl
  · cases e
structure EnR (K : PySem.W.Frag) (H0 F H : Hp) (Γ : En) (σ : St) : Prop where
  fh : Same F H
  sl : ∀ (i : Nat) (s : Sl), Γ[i]? = some (some s) → ∃ v, σ[i]? = some (some v) ∧ SlV K F H s v
  nw : ∀ (i : Nat) (xs : List PyData) (a : Addr), Γ[i]? = some (some (.ow xs)) → σ[i]? = some (some (.ref a)) → H0 a = none
  ds : ∀ (i j : Nat) (xs ys : List PyData) (a : Addr), Γ[i]? = some (some (.ow xs)) → Γ[j]? = some (some (.ow ys)) → σ[i]? = some (some (.ref a)) → σ[j]? = some (some (.ref a)) → i = j
  ln : Γ.length = σ.length
theorem EnR.mono {K : PySem.W.Frag} {H0 F H F' H' : Hp} {Γ : En} {σ : St} (E : EnR K H0 F H Γ σ) (u : Sub F H F' H') : EnR K H0 F' H' Γ σ :=
  ⟨u.fh, fun i s h => by obtain ⟨v, h1, h2⟩ := E.sl i s h; exact ⟨v, h1, h2.mono u⟩, E.nw, E.ds, E.ln⟩
structure Sx where
  P : Program
  w : World
  K : PySem.W.Frag
  mg : Str → Option Value
  base : Heap
  N : List Str
  sc : Scope
  k : Nat
  fn : Str → Bool
structure Sx.Ok (S : Sx) (X : Cx) : Prop where
  P : X.prog = S.P
  w : X.w = S.w
  K : X.K = S.K
  mg : X.mg = S.mg
  base : X.base = S.base
  N : X.N = S.N
  sc : X.env.scope = S.sc
  room : Room S.k X.A
  calm : X.calm = true
  nd : S.N.Nodup
  fn : X.fn = S.fn
  pass : PassesOwn (model X.prog X.w) X.A X.env X.xe
def glB (sc : Scope) (x : Str) : Bool := match sc.names.lookup x with
  | some .globalImplicit => true
  | _ => false
def SlN (K : PySem.W.Frag) (H F' H' : Hp) (s : Sl) (v : V) : Prop := SlV K F' H' s v ∧ ∀ xs a, s = .ow xs → v = .ref a → H a = none
def SE (S : Sx) (e : Expr) (f : En → Option Sl) : Prop :=
  ∃ t : TE, (∀ X, S.Ok X → PE X e t) ∧ ∀ Γ σ H0 F H Q s, EnR S.K H0 F H Γ σ → f Γ = some s → (∀ v F' H', Sub F H F' H' → SlN S.K H F' H' s v → Q v H') → t σ H Q
def SL (S : Sx) (e : Expr) (f : En → Option PyData) : Prop :=
  ∃ t : TE, (∀ X, S.Ok X → PE X e t) ∧ ∀ Γ σ H0 F H Q d, EnR S.K H0 F H Γ σ → f Γ = some d → (∀ v F' H', Sub F H F' H' → LkV S.K F' H' v d → Q v H') → t σ H Q
def SV (S : Sx) (e : Expr) (f : En → Option PyData) : Prop :=
  ∃ t : TE, (∀ X, S.Ok X → PE X e t) ∧ ∀ Γ σ H0 F H Q d, EnR S.K H0 F H Γ σ → f Γ = some d → (∀ v F' H', Sub F H F' H' → Dp S.K F' v d → Q v H') → t σ H Q
def ST (S : Sx) (e : Expr) (f : En → Option Bool) : Prop :=
  ∃ t : TT, (∀ X, S.Ok X → PT X e t) ∧ ∀ Γ σ H0 F H Q b, EnR S.K H0 F H Γ σ → f Γ = some b → (∀ F' H', Sub F H F' H' → Q b H') → t σ H Q
def SW (S : Sx) (e : Expr) (f : En → Option Bool) : Prop :=
  ∃ t : TT, (∀ X, S.Ok X → PW X e t) ∧ ∀ Γ σ H0 F H Q b, EnR S.K H0 F H Γ σ → f Γ = some b → (∀ F' H', Sub F H F' H' → Q b H') → t σ H Q
inductive LkA (K : PySem.W.Frag) (F H : Hp) : List V → List PyData → Prop
  | nil : LkA K F H [] []
  | cons {v : V} {vs : List V} {d : PyData} {ds : List PyData} : LkV K F H v d → LkA K F H vs ds → LkA K F H (v :: vs) (d :: ds)
def dOf (f : En → Option Sl) : En → Option PyData := fun Γ => (f Γ).map Sl.d
def fzOf (f : En → Option PyData) : En → Option Sl := fun Γ => (f Γ).map Sl.fz
section
variable {S : Sx} {e : Expr}
theorem SE.l {f : En → Option Sl} (h : SE S e f) : SL S e (dOf f) := by
  obtain ⟨t, h1, h2⟩ := h
  refine ⟨t, h1, fun Γ σ H0 F H Q d E hf k => ?_⟩
  unfold dOf at hf
  cases q : f Γ with
  | none => rw [q] at hf; cases hf
  | some s =>
    rw [q] at hf; cases hf
    exact h2 Γ σ H0 F H Q s E q fun v F' H' u r => k v F' H' u r.1.lk
theorem SE.v {f : En → Option Sl} (h : SE S e f) : SV S e (dOf f) := by
  obtain ⟨t, h1, h2⟩ := h
  refine ⟨t, h1, fun Γ σ H0 F H Q d E hf k => ?_⟩
  unfold dOf at hf
  cases q : f Γ with
  | none => rw [q] at hf; cases hf
  | some s =>
    rw [q] at hf; cases hf
    refine h2 Γ σ H0 F H Q s E q fun v F' H' u r => ?_
    cases s with
    | fz d => exact k v F' H' u r.1
    | ow xs =>
      obtain ⟨⟨a, vs, rfl, r1, r2, r3⟩, r4⟩ := r
      have ha := r4 xs a rfl rfl
      refine k _ (upd F' a (.lst vs)) H' ⟨u.f.trans (same_new r1), u.h, fun b o e => ?_, fun b o e1 e2 => ?_⟩ (.lst (SqL.of upd_same) (dpAll_mono (same_new r1) r3))
      · by_cases hb : b = a
        · subst hb; rw [upd_same] at e; cases e; exact r2
        · rw [upd_ne hb] at e; exact u.fh b o e
      · rw [upd_ne (ne_of_none e1 ha)]; exact u.o b o e1 e2
theorem SV.l {f : En → Option PyData} (h : SV S e f) : SL S e f := by
  obtain ⟨t, h1, h2⟩ := h
  exact ⟨t, h1, fun Γ σ H0 F H Q d E hf k => h2 Γ σ H0 F H Q d E hf fun v F' H' u r => k v F' H' u (.inl r)⟩
theorem SV.en {f : En → Option PyData} (h : SV S e f) : SE S e (fzOf f) := by
  obtain ⟨t, h1, h2⟩ := h
  refine ⟨t, h1, fun Γ σ H0 F H Q s E hf k => ?_⟩
  unfold fzOf at hf
  cases q : f Γ with
  | none => rw [q] at hf; cases hf
  | some d =>
    rw [q] at hf; cases hf
    exact h2 Γ σ H0 F H Q d E q fun v F' H' u r => k v F' H' u ⟨r, fun _ _ z => by cases z⟩
def gSl (i : Nat) : En → Option PyData := fun Γ => match Γ[i]? with
  | some (some s) => some s.d
  | _ => none
def gFz (i : Nat) : En → Option PyData := fun Γ => match Γ[i]? with
  | some (some (.fz d)) => some d
  | _ => none
def kC (d : PyData) : En → Option PyData := fun _ => some d
def aNil : En → Option (List PyData) := fun _ => some []
def aCons (f : En → Option PyData) (g : En → Option (List PyData)) : En → Option (List PyData) := fun Γ => (f Γ).bind fun d => (g Γ).map (d :: ·)
theorem LkA.mono {K : PySem.W.Frag} {F H F' H' : Hp} (u : Sub F H F' H') : ∀ {vs : List V} {ds : List PyData}, LkA K F H vs ds → LkA K F' H' vs ds
  | _, _, .nil => .nil
  | _, _, .cons h t => .cons (h.mono u) (LkA.mono u t)
def cap : Nat := big 65536
theorem cap_eq : cap = 65536 := big_eq _
def dLst (f : En → Option (List PyData)) : En → Option Sl := fun Γ => (f Γ).bind fun ds => if ds.length ≤ cap then some (.ow ds) else none
def dTup (f : En → Option (List PyData)) : En → Option Sl := fun Γ => (f Γ).bind fun ds => if ds.length ≤ cap then some (.fz (.tuple ds)) else none
theorem SlN.lst {K : PySem.W.Frag} {F H : Hp} {p : Addr} {vs : List V} {xs : List PyData} (fh : Same F H) (hp : H p = none) (h : DpAll K F vs xs) : SlN K H F (upd H p (.lst vs)) (.ow xs) (.ref p) :=
  ⟨⟨p, vs, rfl, fh.free hp, upd_same, h⟩, fun _ a _ e => by cases e; exact hp⟩
def OpS (S : Sx) (f : Value → Value → Sem Value) (p : PyData → PyData → Option Sl) : Prop :=
  ∃ r : R2, (∀ X, S.Ok X → OpR X f r) ∧ ∀ F H x y d e Q s, Same F H → LkV S.K F H x d → LkV S.K F H y e → p d e = some s → (∀ v F' H', Sub F H F' H' → SlN S.K H F' H' s v → Q v H') → r x y H Q
def b2 (p : PyData → PyData → Option Sl) (f g : En → Option PyData) : En → Option Sl := fun Γ => (f Γ).bind fun x => (g Γ).bind fun y => p x y
def bOf (f : En → Option Sl) : En → Option Bool := fun Γ => match f Γ with
  | some (.fz (.bool b)) => some b
  | _ => none
theorem OpS.or {f : Value → Value → Sem Value} {p q : PyData → PyData → Option Sl} (h1 : OpS S f p) (h2 : OpS S f q) : OpS S f (fun x y => (p x y).or (q x y)) := by
  obtain ⟨r1, a1, a2⟩ := h1
  obtain ⟨r2, b1, b2⟩ := h2
  refine ⟨fun x y H Q => r1 x y H Q ∨ r2 x y H Q, fun X ok pins s σ H x y v u Q I rx ry h => h.elim (fun h => a1 X ok pins s σ H x y v u Q I rx ry h) fun h => b1 X ok pins s σ H x y v u Q I rx ry h, fun F H x y d e Q s fh lx ly hp k => ?_⟩
  replace hp : (p d e).or (q d e) = some s := hp
  cases e1 : p d e with
  | some s' => rw [e1] at hp; cases hp; exact .inl (a2 F H x y d e Q s fh lx ly e1 k)
  | none => rw [e1] at hp; exact .inr (b2 F H x y d e Q s fh lx ly hp k)
def pI (g : Int → Int → PyData) (C : Int → Int → Bool) : PyData → PyData → Option Sl
  | .int i, .int j => if C i j = true then some (.fz (g i j)) else none
  | _, _ => none
def pCat : PyData → PyData → Option Sl
  | .list xs, .list ys => if xs.length + ys.length ≤ cap then some (.ow (xs ++ ys)) else none
  | _, _ => none
end
end
end Bd
namespace Bd
open PySem L2
noncomputable section
section
variable {S : Sx}
def mulB (i j : Int) : Bool := (decide (-(big (2 ^ 64) : Int) < i) && decide (i < (big (2 ^ 64) : Int))) || (decide (-(big (2 ^ 64) : Int) < j) && decide (j < (big (2 ^ 64) : Int)))
def divB (_ j : Int) : Bool := decide (0 < j) && decide (j < (big 1073741824 : Int))
def modB (_ j : Int) : Bool := decide (0 < j)
def powB (i j : Int) : Bool := decide (0 ≤ j) && decide (j ≤ (big 1000000 : Int)) && decide (i.natAbs < big (2 ^ 64))
def pAdd (x y : PyData) : Option Sl := (pI (fun i j => .int (i + j)) (fun _ _ => true) x y).or (pCat x y)
def pEq (d e : PyData) : Option Sl := if (SeqAt.shaped d && SeqAt.shaped e) = true then some (.fz (.bool (PyData.eqv d e))) else none
def pNe (d e : PyData) : Option Sl := if (SeqAt.shaped d && SeqAt.shaped e) = true then some (.fz (.bool (!PyData.eqv d e))) else none
def flatD : PyData → Bool
  | .none => true
  | .bool _ => true
  | .int _ => true
  | .str _ => true
  | _ => false
def pIx (d e : PyData) : Option Sl := match d, e with
  | .list xs, .int i => (atI xs i).map Sl.fz
  | .tuple xs, .int i => (atI xs i).map Sl.fz
  | _, _ => none
def oInt (f : En → Option PyData) : En → Option (Option Int) := fun Γ => match f Γ with
  | some (.int i) => some (some i)
  | _ => none
def cutD (xs : List PyData) (lo hi : Option Int) : List PyData := (xs.drop (HT.sIx xs.length 0 lo)).take (HT.sIx xs.length xs.length hi - HT.sIx xs.length 0 lo)
def dSl (f : En → Option PyData) (g h : En → Option (Option Int)) : En → Option Sl := fun Γ => match f Γ, g Γ, h Γ with
  | some (.list xs), some lo, some hi => some (.ow (cutD xs lo hi))
  | _, _, _ => none
def CallS (S : Sx) (f : Value) (p : List PyData → Option Sl) : Prop :=
  ∃ r : List V → Hp → VK → Prop, (∀ X, S.Ok X → CallR X f r) ∧ ∀ F H vs ds Q s, Same F H → LkA S.K F H vs ds → p ds = some s → (∀ v F' H', Sub F H F' H' → SlN S.K H F' H' s v → Q v H') → r vs H Q
theorem CallS.or {f : Value} {p q : List PyData → Option Sl} (h1 : CallS S f p) (h2 : CallS S f q) : CallS S f (fun x => (p x).or (q x)) := by
  obtain ⟨r1, a1, a2⟩ := h1
  obtain ⟨r2, b1, b2⟩ := h2
  refine ⟨fun vs H Q => r1 vs H Q ∨ r2 vs H Q, fun X ok pins s σ H vs us Q I r h => h.elim (fun h => a1 X ok pins s σ H vs us Q I r h) fun h => b1 X ok pins s σ H vs us Q I r h, fun F H vs ds Q s fh l hp k => ?_⟩
  replace hp : (p ds).or (q ds) = some s := hp
  cases e1 : p ds with
  | some s' => rw [e1] at hp; cases hp; exact .inl (a2 F H vs ds Q s fh l e1 k)
  | none => rw [e1] at hp; exact .inr (b2 F H vs ds Q s fh l hp k)
def callD (p : List PyData → Option Sl) (g : En → Option (List PyData)) : En → Option Sl := fun Γ => (g Γ).bind p
theorem LkA.one {K : PySem.W.Frag} {F H : Hp} {vs : List V} {d : PyData} (h : LkA K F H vs [d]) : ∃ v, vs = [v] ∧ LkV K F H v d := by
  cases h with
  | cons h t => cases t; exact ⟨_, rfl, h⟩
def pLen : List PyData → Option Sl
  | [.list xs] => some (.fz (.int xs.length))
  | [.tuple xs] => some (.fz (.int xs.length))
  | _ => none
def pAbs : List PyData → Option Sl
  | [.int i] => some (.fz (.int (if i < 0 then -i else i)))
  | _ => none
def pListOf : List PyData → Option Sl
  | [.list xs] => some (.ow xs)
  | [.tuple xs] => some (.ow xs)
  | _ => none
def toInts : List PyData → Option (List Int)
  | [] => some []
  | .int i :: ds => (toInts ds).map (i :: ·)
  | _ :: _ => none
theorem toInts_map : ∀ (ns : List Int), toInts (ns.map PyData.int) = some ns
  | [] => rfl
  | n :: ns => by show (toInts (ns.map PyData.int)).map (n :: ·) = _; rw [toInts_map ns]; rfl
def sortI (ns : List Int) : List Int := ns.mergeSort (fun a b => decide (a ≤ b))
theorem sorted_eq : ∀ {l m : List Int}, l.Perm m → l.Pairwise (· ≤ ·) → m.Pairwise (· ≤ ·) → l = m
  | [], m, p, _, _ => by rw [List.nil_perm.mp p]
  | a :: l, [], p, _, _ => by cases List.perm_nil.mp p
  | a :: l, b :: m, p, h1, h2 => by
    rw [List.pairwise_cons] at h1 h2
    have e : a = b := by
      have ha : a ∈ b :: m := p.mem_iff.mp List.mem_cons_self
      have hb : b ∈ a :: l := p.mem_iff.mpr List.mem_cons_self
      rcases List.mem_cons.mp ha with q | q
      · exact q
      · rcases List.mem_cons.mp hb with r | r
        · exact r.symm
        · exact Int.le_antisymm (h1.1 b r) (h2.1 a q)
    subst e
    rw [sorted_eq (List.Perm.cons_inv p) h1.2 h2.2]
theorem sortI_perm (ns : List Int) : (sortI ns).Perm ns := List.mergeSort_perm ns _
theorem sortI_sorted (ns : List Int) : (sortI ns).Pairwise (· ≤ ·) := by
  have h := List.pairwise_mergeSort (le := fun a b : Int => decide (a ≤ b)) (fun a b c h1 h2 => by simp at *; omega) (fun a b => by simp; omega) ns
  exact h.imp fun h => by simpa using h
def sortU (ns : List Int) : List Int := sortI (uniq ns)
def pSortedSet : List PyData → Option Sl
  | [.list xs] => (toInts xs).bind fun ns => if ns.length < big 4000 ∧ (uniq ns).length < 64 then some (.ow ((sortU ns).map PyData.int)) else none
  | _ => none
end
end
end Bd
namespace Bd
open PySem L2
noncomputable section
section
variable {S : Sx}
def truD : PyData → Option Bool
  | .none => some false
  | .bool b => some b
  | .int i => some (i != 0)
  | .list xs => some (!xs.isEmpty)
  | .tuple xs => some (!xs.isEmpty)
  | _ => none
def bTru (f : En → Option PyData) : En → Option Bool := fun Γ => (f Γ).bind truD
def bNot (f : En → Option Bool) : En → Option Bool := fun Γ => (f Γ).map (!·)
def bAnd (f g : En → Option Bool) : En → Option Bool := fun Γ => match f Γ with
  | some true => g Γ
  | some false => some false
  | none => none
def bOr (f g : En → Option Bool) : En → Option Bool := fun Γ => match f Γ with
  | some true => some true
  | some false => g Γ
  | none => none
theorem SW.t {e : Expr} {f} (h : SW S e f) : ST S e f := by
  obtain ⟨t, a1, a2⟩ := h
  exact ⟨t, fun X ok => (a1 X ok).pt, a2⟩
def vAnd (f g : En → Option Sl) : En → Option Sl := fun Γ => match f Γ with
  | some (.fz (.bool true)) => g Γ
  | some (.fz (.bool false)) => some (.fz (.bool false))
  | _ => none
def vOr (f g : En → Option Sl) : En → Option Sl := fun Γ => match f Γ with
  | some (.fz (.bool true)) => some (.fz (.bool true))
  | some (.fz (.bool false)) => g Γ
  | _ => none
def vNot (f : En → Option Sl) : En → Option Sl := fun Γ => match f Γ with
  | some (.fz (.bool b)) => some (.fz (.bool (!b)))
  | _ => none
theorem SlN.bl {K : PySem.W.Frag} {H F' H' : Hp} {b : Bool} {v : V} (h : SlN K H F' H' (.fz (.bool b)) v) : v = .bl b := by cases h.1; rfl
def tyName : PyData → String
  | .none => "NoneType"
  | .bool _ => "bool"
  | .int _ => "int"
  | .str _ => "str"
  | .list _ => "list"
  | .tuple _ => "tuple"
  | .dict _ => "dict"
def isTy (T : String) (d : PyData) : Bool := tyName d == T || (T == "int" && tyName d == "bool")
def vIsi (T : String) (f : En → Option PyData) : En → Option Sl := fun Γ => (f Γ).map fun d => .fz (.bool (isTy T d))
theorem foldl_bst : ∀ (ns : List Int) (b : Int), ∃ m, ns.foldl bst (some b) = some m ∧ (m = b ∨ m ∈ ns) ∧ b ≤ m ∧ ∀ y ∈ ns, y ≤ m
  | [], b => ⟨b, rfl, .inl rfl, Int.le_refl _, fun y h => by cases h⟩
  | n :: ns, b => by
    rw [List.foldl_cons]
    by_cases h : b < n
    · rw [show bst (some b) n = some n from if_pos h]
      obtain ⟨m, e, h1, h2, h3⟩ := foldl_bst ns n
      refine ⟨m, e, .inr ?_, by omega, fun y hy => ?_⟩
      · rcases h1 with rfl | h1
        · exact List.mem_cons_self
        · exact List.mem_cons_of_mem _ h1
      · rcases List.mem_cons.mp hy with rfl | hy
        · exact h2
        · exact h3 y hy
    · rw [show bst (some b) n = some b from if_neg h]
      obtain ⟨m, e, h1, h2, h3⟩ := foldl_bst ns b
      refine ⟨m, e, ?_, h2, fun y hy => ?_⟩
      · rcases h1 with rfl | h1
        · exact .inl rfl
        · exact .inr (List.mem_cons_of_mem _ h1)
      · rcases List.mem_cons.mp hy with rfl | hy
        · omega
        · exact h3 y hy
def pMax : List PyData → Option Sl
  | [.list xs] => (toInts xs).bind fun ns => (maxOpt ns).map fun m => .fz (.int m)
  | _ => none
def pMax2 : List PyData → Option Sl
  | [.int i, .int j] => some (.fz (.int (if j > i then j else i)))
  | _ => none
def pSum : List PyData → Option Sl
  | [.list xs] => (toInts xs).map fun ns => .fz (.int ns.sum)
  | _ => none
def spD (K : PySem.W.Frag) (n : Nat) (m : List PyData → Option Sl) : Sp := fun vs H Q _ =>
  ∃ F ds s, Same F H ∧ ds.length = n ∧ DpAll K F vs ds ∧ m ds = some s ∧ ∀ v F' H', Sub F H F' H' → SlN K H F' H' s v → Q v H'
structure FnD (S : Sx) (x : Str) (ps : List Str) (m : List PyData → Option Sl) : Prop where
  ex : ∃ (f : Addr) (fd : FuncData) (j : Nat), FnOk S.P S.w S.K S.mg S.base CX0 j f fd ps (spD S.K ps.length m) ∧ j ≤ S.k ∧ S.mg x = some (.ref f) ∧ PySem.W.keepIn S.K (.ref f) = true ∧ Binds S.K fd ps []
end
end
end Bd
namespace Bd
open PySem L2
noncomputable section
section
variable {S : Sx}
def ItR (K : PySem.W.Frag) (F B : Hp) (J : It) (ds : List PyData) : Prop := ∀ (i : Nat) (F1 H1 : Hp), Same F F1 → Same F1 H1 → Same B H1 →
  (i < ds.length → J.go i H1 ∧ ∀ x H2, J.yld i H1 x H2 → ∃ F2 d, ds[i]? = some d ∧ Sub F1 H1 F2 H2 ∧ Dp K F2 x d) ∧ (ds.length ≤ i → J.stop i H1)
def SI (S : Sx) (tg iter : Expr) (f : En → Option (List PyData)) : Prop :=
  ∃ wi : TI, (∀ X, S.Ok X → PI X tg iter wi) ∧ ∀ Γ σ H0 F H R ds, EnR S.K H0 F H Γ σ → f Γ = some ds → (∀ J F' H', Sub F H F' H' → ItR S.K F' H' J ds → R J H') → wi σ H R
def SIV (S : Sx) (tg iter : Expr) (f : En → Option (List PyData)) : Prop :=
  ∃ wi : TI, (∀ X, S.Ok X → PI X tg iter wi) ∧ ∀ Γ σ H0 F H R ds, EnR S.K H0 F H Γ σ → f Γ = some ds → (∀ J F' H', Sub F H F' H' → ItR S.K F' F' J ds → R J H') → wi σ H R
theorem SIV.l {tg iter : Expr} {f} (h : SIV S tg iter f) : SI S tg iter f := by
  obtain ⟨wi, a1, a2⟩ := h
  exact ⟨wi, a1, fun Γ σ H0 F H R ds E hf k => a2 Γ σ H0 F H R ds E hf fun J F' H' u it => k J F' H' u fun i F1 H1 h1 h2 h3 => it i F1 H1 h1 h2 (h1.trans h2)⟩
def enumD (ds : List PyData) : List PyData := (List.range ds.length).zipWith (fun (i : Nat) d => PyData.tuple [.int (i : Int), d]) ds
theorem enumD_get {ds : List PyData} {i : Nat} {d : PyData} (h : ds[i]? = some d) : (enumD ds)[i]? = some (.tuple [.int (i : Int), d]) := by
  unfold enumD
  have lt : i < ds.length := (List.getElem?_eq_some_iff.mp h).1
  rw [List.getElem?_zipWith, List.getElem?_range lt, h]
theorem enumD_len (ds : List PyData) : (enumD ds).length = ds.length := by unfold enumD; simp
def rngD (lo : Int) (n : Nat) : List PyData := (List.range n).map fun (i : Nat) => PyData.int (lo + (i : Int))
def iLst (f : En → Option PyData) : En → Option (List PyData) := fun Γ => match f Γ with
  | some (.list xs) => some xs
  | _ => none
def iEnm (f : En → Option PyData) : En → Option (List PyData) := fun Γ => match f Γ with
  | some (.list xs) => some (enumD xs)
  | _ => none
def iR1 (f : En → Option PyData) : En → Option (List PyData) := fun Γ => match f Γ with
  | some (.int j) => if -(big (2 ^ 62) : Int) ≤ j ∧ j < (big (2 ^ 62) : Int) then some (rngD 0 j.toNat) else none
  | _ => none
def iR2 (f g : En → Option PyData) : En → Option (List PyData) := fun Γ => match f Γ, g Γ with
  | some (.int i), some (.int j) => if (-(big (2 ^ 62) : Int) ≤ i ∧ i < (big (2 ^ 62) : Int)) ∧ -(big (2 ^ 62) : Int) ≤ j ∧ j < (big (2 ^ 62) : Int) then some (rngD i (j - i).toNat) else none
  | _, _ => none
def Agr (js : List Nat) (σ σ' : St) : Prop := σ'.length = σ.length ∧ ∀ k, k ∉ js → σ'[k]? = σ[k]?
def setE (i : Nat) (s : Sl) (Γ : En) : En := Γ.set i (some s)
def gNm (i : Nat) : PyData → En → Option En := fun d Γ => some (setE i (.fz d) Γ)
def gsNil : List PyData → En → Option En := fun ds Γ => match ds with
  | [] => some Γ
  | _ => none
def gsCons (g : PyData → En → Option En) (h : List PyData → En → Option En) : List PyData → En → Option En := fun ds Γ => match ds with
  | d :: r => (g d Γ).bind (h r)
  | [] => none
def gTpl (n : Nat) (h : List PyData → En → Option En) : PyData → En → Option En := fun d Γ => match d with
  | .tuple ds => if ds.length = n then h ds Γ else none
  | _ => none
def wipeE (Γ : En) : List Nat → En
  | [] => Γ
  | v :: vs => (wipeE Γ vs).set v none
def bYes : En → Option Bool := fun _ => some true
def lcD (g : PyData → En → Option En) (c : En → Option Bool) (fe : En → Option PyData) (Γ : En) : List PyData → Option (List PyData)
  | [] => some []
  | x :: xs => (g x Γ).bind fun Γ1 => (c Γ1).bind fun b => if b = true then (fe Γ1).bind fun y => (lcD g c fe Γ xs).map (y :: ·) else lcD g c fe Γ xs
def vLc (items : En → Option (List PyData)) (g : PyData → En → Option En) (c : En → Option Bool) (fe : En → Option PyData) (vs : List Nat) : En → Option Sl := fun Γ =>
  (items Γ).bind fun ds => if ds.length < cap then (lcD g c fe (wipeE Γ vs) ds).map Sl.ow else none
end
end
end Bd
namespace Bd
open PySem L2
noncomputable section
section
variable {X : Cx}
end
inductive Out where
  | nx (Γ : En) | rt (s : Sl) | bk (Γ : En) | ct (Γ : En)
structure StR (K : PySem.W.Frag) (F0 H0 F H : Hp) (Γ : En) (σ : St) : Prop where
  en : EnR K H0 F H Γ σ
  su : Sub F0 H0 F H
def Kp (T : List Nat) (Γ : En) (σ : St) (H : Hp) (Γ' : En) (σ' : St) (H' : Hp) : Prop :=
  ∀ (j : Nat), j ∉ T → Γ'[j]? = Γ[j]? ∧ σ'[j]? = σ[j]? ∧ ∀ xs a, Γ[j]? = some (some (.ow xs)) → σ[j]? = some (some (.ref a)) → H' a = H a
theorem Kp.trans {T U : List Nat} {Γ Γ1 Γ2 : En} {σ σ1 σ2 : St} {H H1 H2 : Hp} (a : Kp T Γ σ H Γ1 σ1 H1) (b : Kp U Γ1 σ1 H1 Γ2 σ2 H2) : Kp (T ++ U) Γ σ H Γ2 σ2 H2 := fun j hj => by
  rw [List.mem_append, not_or] at hj
  obtain ⟨a1, a2, a3⟩ := a j hj.1
  obtain ⟨b1, b2, b3⟩ := b j hj.2
  exact ⟨b1.trans a1, b2.trans a2, fun xs x h1 h2 => (b3 xs x (a1.trans h1) (a2.trans h2)).trans (a3 xs x h1 h2)⟩
theorem Kp.mono {T U : List Nat} {Γ Γ1 : En} {σ σ1 : St} {H H1 : Hp} (a : Kp T Γ σ H Γ1 σ1 H1) (h : ∀ j ∈ T, j ∈ U) : Kp U Γ σ H Γ1 σ1 H1 := fun j hj => a j fun q => hj (h j q)
theorem Kp.refl {Γ : En} {σ : St} {H : Hp} : Kp [] Γ σ H Γ σ H := fun j _ => ⟨rfl, rfl, fun _ _ _ _ => rfl⟩
theorem EnR.kp {K : PySem.W.Frag} {H0 F H H' : Hp} {Γ : En} {σ : St} (E : EnR K H0 F H Γ σ) (s : Same H H') : Kp [] Γ σ H Γ σ H' := fun j _ => ⟨rfl, rfl, fun xs a h1 h2 => by
  obtain ⟨v, e1, b, vs, rfl, _, e2, _⟩ := E.sl j _ h1
  rw [h2] at e1; cases e1
  rw [e2, s _ _ e2]⟩
def EndR (K : PySem.W.Frag) (F0 H0 : Hp) (T : List Nat) (Γ0 : En) (σ0 : St) (Hs : Hp) (D : Ends) : Out → Prop
  | .nx Γ => ∀ σ F H, StR K F0 H0 F H Γ σ → Kp T Γ0 σ0 Hs Γ σ H → D.nx σ H
  | .bk Γ => ∀ σ F H, StR K F0 H0 F H Γ σ → Kp T Γ0 σ0 Hs Γ σ H → D.bk σ H
  | .ct Γ => ∀ σ F H, StR K F0 H0 F H Γ σ → Kp T Γ0 σ0 Hs Γ σ H → D.ct σ H
  | .rt s => ∀ v F H, Sub F0 H0 F H → SlN K H0 F H s v → D.rt v H
def SS (S : Sx) (st : Stmt) (T : List Nat) (g : En → Option Out) : Prop :=
  ∃ t : TS, (∀ X, S.Ok X → PS X st t) ∧ ∀ F0 H0 F H Γ σ D o, StR S.K F0 H0 F H Γ σ → g Γ = some o → EndR S.K F0 H0 T Γ σ H D o → t D σ H
def SSs (S : Sx) (sts : List Stmt) (T : List Nat) (g : En → Option Out) : Prop :=
  ∃ t : TS, (∀ X, S.Ok X → PSs X sts t) ∧ ∀ F0 H0 F H Γ σ D o, StR S.K F0 H0 F H Γ σ → g Γ = some o → EndR S.K F0 H0 T Γ σ H D o → t D σ H
theorem EndR.step {K : PySem.W.Frag} {F0 H0 Hs H1 : Hp} {T U : List Nat} {Γ0 Γ1 : En} {σ0 σ1 : St} {D : Ends} {o : Out} (k : EndR K F0 H0 (T ++ U) Γ0 σ0 Hs D o) (a : Kp T Γ0 σ0 Hs Γ1 σ1 H1) : EndR K F0 H0 U Γ1 σ1 H1 D o := by
  cases o with
  | nx Γ => exact fun σ F H R z => k σ F H R (a.trans z)
  | bk Γ => exact fun σ F H R z => k σ F H R (a.trans z)
  | ct Γ => exact fun σ F H R z => k σ F H R (a.trans z)
  | rt s => exact k
theorem StR.mono {K : PySem.W.Frag} {F0 H0 F H F' H' : Hp} {Γ : En} {σ : St} (R : StR K F0 H0 F H Γ σ) (u : Sub F H F' H') : StR K F0 H0 F' H' Γ σ := ⟨R.en.mono u, R.su.trans u⟩
section
variable {S : Sx}
def oNil : En → Option Out := fun Γ => some (.nx Γ)
def oSeq (g h : En → Option Out) : En → Option Out := fun Γ => match g Γ with
  | some (.nx Γ') => h Γ'
  | r => r
def oRet (f : En → Option Sl) : En → Option Out := fun Γ => (f Γ).map Out.rt
def oRetV (i : Nat) : En → Option Out := fun Γ => match Γ[i]? with
  | some (some s) => some (.rt s)
  | _ => none
def oSet (i : Nat) (f : En → Option Sl) : En → Option Out := fun Γ => (f Γ).map fun s => .nx (setE i s Γ)
theorem EnR.write {K : PySem.W.Frag} {H0 F H : Hp} {Γ : En} {σ : St} {i : Nat} {a : Addr} {xs ys : List PyData} {vs us : List V} (E : EnR K H0 F H Γ σ) (hi : Γ[i]? = some (some (.ow xs))) (hs : σ[i]? = some (some (.ref a))) (hH : H a = some (.lst vs)) (hF : F a = none) (hd : DpAll K F us ys) :
    EnR K H0 F (upd H a (.lst us)) (setE i (.ow ys) Γ) σ := by
  have fh : Same F (upd H a (.lst us)) := fun b o e => by rw [upd_ne (fun z => by rw [z, hF] at e; cases e)]; exact E.fh b o e
  have il : i < Γ.length := (List.getElem?_eq_some_iff.mp hi).1
  refine ⟨fh, fun j s hj => ?_, fun j zs b h1 h2 => ?_, fun j k zs ws b h1 h2 h3 h4 => ?_, by unfold setE; rw [List.length_set]; exact E.ln⟩
  · unfold setE at hj
    rw [List.getElem?_set] at hj
    split at hj
    · next e =>
      subst e
      cases hj
      exact ⟨.ref a, hs, a, us, rfl, hF, upd_same, hd⟩
    · next e =>
      obtain ⟨v, h1, h2⟩ := E.sl j s hj
      refine ⟨v, h1, ?_⟩
      cases s with
      | fz d => exact h2
      | ow zs =>
        obtain ⟨b, ws, rfl, q1, q2, q3⟩ := h2
        have ne : b ≠ a := fun z => by subst z; exact e (E.ds i j xs zs b hi hj hs h1)
        exact ⟨b, ws, rfl, q1, by rw [upd_ne ne]; exact q2, q3⟩
  · unfold setE at h1
    rw [List.getElem?_set] at h1
    split at h1
    · next e => subst e; exact E.nw i xs b hi h2
    · exact E.nw j zs b h1 h2
  · unfold setE at h1 h2
    rw [List.getElem?_set] at h1 h2
    have w1 : ∃ zs, Γ[j]? = some (some (.ow zs)) := by
      split at h1
      · next e => subst e; exact ⟨xs, hi⟩
      · exact ⟨_, h1⟩
    have w2 : ∃ zs, Γ[k]? = some (some (.ow zs)) := by
      split at h2
      · next e => subst e; exact ⟨xs, hi⟩
      · exact ⟨_, h2⟩
    obtain ⟨_, w1⟩ := w1
    obtain ⟨_, w2⟩ := w2
    exact E.ds j k _ _ b w1 w2 h3 h4
theorem StR.write {K : PySem.W.Frag} {F0 H0 F H : Hp} {Γ : En} {σ : St} {i : Nat} {a : Addr} {xs ys : List PyData} {vs us : List V} (R : StR K F0 H0 F H Γ σ) (hi : Γ[i]? = some (some (.ow xs))) (hs : σ[i]? = some (some (.ref a))) (hH : H a = some (.lst vs)) (hF : F a = none) (hd : DpAll K F us ys) :
    StR K F0 H0 F (upd H a (.lst us)) (setE i (.ow ys) Γ) σ := by
  have E := R.en.write hi hs hH hF hd
  refine ⟨E, R.su.f, fun b o e => ?_, E.fh, R.su.o⟩
  rw [upd_ne (ne_of_none e (R.en.nw i xs a hi hs))]
  exact R.su.h b o e
def oApp (i : Nat) (f : En → Option PyData) : En → Option Out := fun Γ => match Γ[i]?, f Γ with
  | some (some (.ow xs)), some d => if xs.length < cap then some (.nx (setE i (.ow (xs ++ [d])) Γ)) else none
  | _, _ => none
def oExt (i : Nat) (f : En → Option PyData) : En → Option Out := fun Γ => match Γ[i]?, f Γ with
  | some (some (.ow xs)), some (.list ys) => if xs.length + ys.length ≤ cap then some (.nx (setE i (.ow (xs ++ ys)) Γ)) else none
  | _, _ => none
end
end
end Bd
namespace Bd
open PySem L2
noncomputable section
section
variable {S : Sx}
def oIf (c : En → Option Bool) (g h : En → Option Out) : En → Option Out := fun Γ => match c Γ with
  | some true => g Γ
  | some false => h Γ
  | none => none
def forD (g : PyData → En → Option En) (b : En → Option Out) : List PyData → En → Option Out
  | [], Γ => some (.nx Γ)
  | d :: ds, Γ => (g d Γ).bind fun Γ1 => match b Γ1 with
    | some (.nx Γ2) => forD g b ds Γ2
    | some (.ct Γ2) => forD g b ds Γ2
    | some (.bk Γ2) => some (.nx Γ2)
    | some (.rt s) => some (.rt s)
    | none => none
def oFor (fi : En → Option (List PyData)) (g : PyData → En → Option En) (b : En → Option Out) : En → Option Out := fun Γ => (fi Γ).bind fun ds => forD g b ds Γ
theorem StR.base {K : PySem.W.Frag} {F0 H0 F H : Hp} {Γ : En} {σ : St} (R : StR K F0 H0 F H Γ σ) : StR K F H0 F H Γ σ :=
  ⟨R.en, .refl _, R.su.h, R.su.fh, fun a o h1 h2 => h2⟩
theorem Agr.kp {K : PySem.W.Frag} {H0 F H H' : Hp} {Γ : En} {σ : St} {js : List Nat} (E : EnR K H0 F H Γ σ) (sm : Same H H') {σ' : St} {Γ' : En} (ag : Agr js σ σ') (hΓ : ∀ j, j ∉ js → Γ'[j]? = Γ[j]?) : Kp js Γ σ H Γ' σ' H' := fun j hj => by
  obtain ⟨_, _, q⟩ := E.kp sm j (by simp)
  exact ⟨hΓ j hj, ag.2 j hj, q⟩
def iOwn (j : Nat) : En → Option (List PyData) := fun Γ => match Γ[j]? with
  | some (some (.ow xs)) => some xs
  | _ => none
def iOwnE (j : Nat) : En → Option (List PyData) := fun Γ => match Γ[j]? with
  | some (some (.ow xs)) => some (enumD xs)
  | _ => none
def whileD (c : En → Option Bool) (b : En → Option Out) : Nat → En → Option Out
  | 0, _ => none
  | n + 1, Γ => match c Γ with
    | some true => (match b Γ with
      | some (.nx Γ2) => whileD c b n Γ2
      | some (.ct Γ2) => whileD c b n Γ2
      | some (.bk Γ2) => some (.nx Γ2)
      | some (.rt s) => some (.rt s)
      | none => none)
    | some false => some (.nx Γ)
    | none => none
def oWhile (n : Nat) (c : En → Option Bool) (b : En → Option Out) : En → Option Out := whileD c b n
def frzE (i : Nat) (Γ : En) : En := match Γ[i]? with
  | some (some (.ow xs)) => setE i (.fz (.list xs)) Γ
  | _ => Γ
def oFrz (i : Nat) (g : En → Option Out) : En → Option Out := fun Γ => g (frzE i Γ)
def startE (n : Nat) (ds : List PyData) : En := (ds.map fun d => some (Sl.fz d)) ++ List.replicate (n - ds.length) none
def mirror (n : Nat) (g : En → Option Out) : List PyData → Option Sl := fun ds => match g (startE n ds) with
  | some (.rt s) => some s
  | some (.nx _) => some (.fz .none)
  | _ => none
theorem start_ok {K : PySem.W.Frag} {F H : Hp} {N : List Str} {vs : List V} {ds : List PyData} (fh : Same F H) (hd : DpAll K F vs ds) : EnR K H F H (startE N.length ds) (start N vs) := by
  have hl := hd.length
  have get : ∀ (i : Nat) (s : Sl), (startE N.length ds)[i]? = some (some s) → ∃ d, s = .fz d ∧ ds[i]? = some d := fun i s h => by
    unfold startE at h
    by_cases hi : i < ds.length
    · rw [List.getElem?_append_left (by rw [List.length_map]; exact hi), List.getElem?_map] at h
      cases e : ds[i]? with
      | none => rw [e] at h; cases h
      | some d => rw [e] at h; cases h; exact ⟨d, rfl, rfl⟩
    · rw [List.getElem?_append_right (by rw [List.length_map]; omega), List.getElem?_replicate] at h
      split at h <;> cases h
  refine ⟨fh, fun i s h => ?_, fun i xs a h => ?_, fun i j xs ys a h => ?_, ?_⟩
  · obtain ⟨d, rfl, e⟩ := get i s h
    obtain ⟨v, e1, e2⟩ := hd.get' e
    refine ⟨v, ?_, e2⟩
    unfold L2.start
    rw [List.getElem?_append_left (by rw [List.length_map]; exact (List.getElem?_eq_some_iff.mp e1).1), List.getElem?_map, e1]; rfl
  · obtain ⟨d, e, _⟩ := get i _ h; cases e
  · obtain ⟨d, e, _⟩ := get i _ h; cases e
  · unfold startE L2.start
    simp only [List.length_append, List.length_map, List.length_replicate, hl]
end
end
end Bd
namespace Bd
open PySem L2
noncomputable section
abbrev pSub : PyData → PyData → Option Sl := pI (fun i j => .int (i - j)) fun _ _ => true
abbrev pMul : PyData → PyData → Option Sl := pI (fun i j => .int (i * j)) mulB
abbrev pDiv : PyData → PyData → Option Sl := pI (fun i j => .int (i / j)) divB
abbrev pMod : PyData → PyData → Option Sl := pI (fun i j => .int (i % j)) modB
abbrev pPow : PyData → PyData → Option Sl := pI (fun i j => .int (i ^ j.toNat)) powB
abbrev pLt : PyData → PyData → Option Sl := pI (fun i j => .bool (decide (i < j))) fun _ _ => true
abbrev pLe : PyData → PyData → Option Sl := pI (fun i j => .bool (decide (i ≤ j))) fun _ _ => true
abbrev pGt : PyData → PyData → Option Sl := pI (fun i j => .bool (decide (j < i))) fun _ _ => true
abbrev pGe : PyData → PyData → Option Sl := pI (fun i j => .bool (decide (j ≤ i))) fun _ _ => true
section
variable {f h : En → Option PyData} {fs gs : En → Option Sl} {c d : En → Option Bool} {a : En → Option (List PyData)} {g k : En → Option Out} {Γ Δ : En} {i j : Nat}
@[simp] theorem e_setE0 {s : Sl} {x : Option Sl} {l : En} : setE 0 s (x :: l) = some s :: l := id rfl
@[simp] theorem e_setES {s : Sl} {x : Option Sl} {l : En} {n : Nat} : setE (n + 1) s (x :: l) = x :: setE n s l := id rfl
@[simp] theorem e_dOf : dOf fs Γ = (fs Γ).map Sl.d := id rfl
@[simp] theorem e_fzOf : fzOf f Γ = (f Γ).map Sl.fz := id rfl
@[simp] theorem e_fz (d : PyData) : (Sl.fz d).d = d := id rfl
@[simp] theorem e_ow (xs : List PyData) : (Sl.ow xs).d = .list xs := id rfl
@[simp] theorem e_gSl0 {s : Sl} {l : En} : gSl 0 (some s :: l) = some s.d := id rfl
@[simp] theorem e_gSlS {x : Option Sl} {l : En} {n : Nat} : gSl (n + 1) (x :: l) = gSl n l := id rfl
@[simp] theorem e_gFz0 {d : PyData} {l : En} : gFz 0 (some (.fz d) :: l) = some d := id rfl
@[simp] theorem e_gFzS {x : Option Sl} {l : En} {n : Nat} : gFz (n + 1) (x :: l) = gFz n l := id rfl
@[simp] theorem e_kC (d : PyData) : kC d Γ = some d := id rfl
@[simp] theorem e_aNil : aNil Γ = some [] := id rfl
@[simp] theorem e_aCons : aCons f a Γ = (f Γ).bind fun d => (a Γ).map (d :: ·) := id rfl
@[simp] theorem e_dLst : dLst a Γ = (a Γ).bind fun ds => if ds.length ≤ cap then some (.ow ds) else none := id rfl
@[simp] theorem e_dTup : dTup a Γ = (a Γ).bind fun ds => if ds.length ≤ cap then some (.fz (.tuple ds)) else none := id rfl
@[simp] theorem e_b2 {p} : b2 p f h Γ = (f Γ).bind fun x => (h Γ).bind fun y => p x y := id rfl
@[simp] theorem e_pI {u : Int → Int → PyData} {C : Int → Int → Bool} {i j : Int} : pI u C (.int i) (.int j) = if C i j = true then some (.fz (u i j)) else none := id rfl
@[simp] theorem e_pAddI {i j : Int} : pAdd (.int i) (.int j) = some (.fz (.int (i + j))) := id rfl
@[simp] theorem e_pAddL {x y : List PyData} : pAdd (.list x) (.list y) = if x.length + y.length ≤ cap then some (.ow (x ++ y)) else none := id rfl
@[simp] theorem e_callD {p} : callD p a Γ = (a Γ).bind p := id rfl
@[simp] theorem e_bOf : bOf fs Γ = (match fs Γ with | some (.fz (.bool b)) => some b | _ => none) := id rfl
@[simp] theorem e_bNot : bNot c Γ = (c Γ).map (!·) := id rfl
@[simp] theorem e_bTru : bTru f Γ = (f Γ).bind truD := id rfl
@[simp] theorem e_truB (b : Bool) : truD (.bool b) = some b := id rfl
@[simp] theorem e_bAnd : bAnd c d Γ = (match c Γ with | some true => d Γ | some false => some false | none => none) := id rfl
@[simp] theorem e_bOr : bOr c d Γ = (match c Γ with | some true => some true | some false => d Γ | none => none) := id rfl
@[simp] theorem e_vAnd : vAnd fs gs Γ = (match fs Γ with | some (.fz (.bool true)) => gs Γ | some (.fz (.bool false)) => some (.fz (.bool false)) | _ => none) := id rfl
@[simp] theorem e_bYes : bYes Γ = some true := id rfl
@[simp] theorem e_pLenL {xs : List PyData} : pLen [.list xs] = some (.fz (.int xs.length)) := id rfl
@[simp] theorem e_pLenT {xs : List PyData} : pLen [.tuple xs] = some (.fz (.int xs.length)) := id rfl
@[simp] theorem e_pAbs {i : Int} : pAbs [.int i] = some (.fz (.int (if i < 0 then -i else i))) := id rfl
@[simp] theorem e_pListOf {xs : List PyData} : pListOf [.list xs] = some (.ow xs) := id rfl
@[simp] theorem e_pIxL {xs : List PyData} {i : Int} : pIx (.list xs) (.int i) = (atI xs i).map Sl.fz := id rfl
@[simp] theorem e_pIxT {xs : List PyData} {i : Int} : pIx (.tuple xs) (.int i) = (atI xs i).map Sl.fz := id rfl
@[simp] theorem e_vIsi {T : String} : vIsi T f Γ = (f Γ).map fun d => .fz (.bool (isTy T d)) := id rfl
@[simp] theorem e_iLst : iLst f Γ = (match f Γ with | some (.list xs) => some xs | _ => none) := id rfl
@[simp] theorem e_iEnm : iEnm f Γ = (match f Γ with | some (.list xs) => some (enumD xs) | _ => none) := id rfl
@[simp] theorem e_gNm {d : PyData} : gNm i d Γ = some (setE i (.fz d) Γ) := id rfl
@[simp] theorem e_oNil : oNil Γ = some (.nx Γ) := id rfl
@[simp] theorem e_oSeq : oSeq g k Γ = (match g Γ with | some (.nx Γ') => k Γ' | r => r) := id rfl
@[simp] theorem e_oSet : oSet i fs Γ = (fs Γ).map fun s => .nx (setE i s Γ) := id rfl
@[simp] theorem e_oRet : oRet fs Γ = (fs Γ).map Out.rt := id rfl
@[simp] theorem e_oIf : oIf c g k Γ = (match c Γ with | some true => g Γ | some false => k Γ | none => none) := id rfl
@[simp] theorem e_oFor {fi u} : oFor fi u g Γ = (fi Γ).bind fun ds => forD u g ds Γ := id rfl
@[simp] theorem e_oFrz : oFrz i g Γ = g (frzE i Γ) := id rfl
@[simp] theorem e_vLc {fi u fe vs} : vLc fi u c fe vs Γ = (fi Γ).bind fun ds => if ds.length < cap then (lcD u c fe (wipeE Γ vs) ds).map Sl.ow else none := id rfl
@[simp] theorem e_frz0w {xs : List PyData} {l : En} : frzE 0 (some (.ow xs) :: l) = some (.fz (.list xs)) :: l := id rfl
@[simp] theorem e_frz0f {d : PyData} {l : En} : frzE 0 (some (.fz d) :: l) = some (.fz d) :: l := id rfl
@[simp] theorem e_frzS {x : Option Sl} {l : En} {n : Nat} : frzE (n + 1) (x :: l) = x :: frzE n l := by
  unfold frzE
  rw [List.getElem?_cons_succ]
  cases q : l[n]? with
  | none => rfl
  | some o =>
    cases o with
    | none => rfl
    | some s => cases s <;> rfl
@[simp] theorem e_wipeN : wipeE Γ [] = Γ := id rfl
@[simp] theorem e_wipeC {v : Nat} {vs : List Nat} : wipeE Γ (v :: vs) = (wipeE Γ vs).set v none := id rfl
@[simp] theorem e_tyL {xs : List PyData} : tyName (.list xs) = "list" := id rfl
@[simp] theorem e_tyT {xs : List PyData} : tyName (.tuple xs) = "tuple" := id rfl
@[simp] theorem e_tyI {n : Int} : tyName (.int n) = "int" := id rfl
@[simp] theorem e_tyB {b : Bool} : tyName (.bool b) = "bool" := id rfl
end
@[simp] theorem e_oRetV {i : Nat} {Γ : En} : oRetV i Γ = (match Γ[i]? with | some (some s) => some (.rt s) | _ => none) := id rfl
@[simp] theorem e_oApp {i : Nat} {Γ : En} {f} : oApp i f Γ = (match Γ[i]?, f Γ with | some (some (.ow xs)), some d => if xs.length < cap then some (.nx (setE i (.ow (xs ++ [d])) Γ)) else none | _, _ => none) := id rfl
@[simp] theorem e_oExt {i : Nat} {Γ : En} {f} : oExt i f Γ = (match Γ[i]?, f Γ with | some (some (.ow xs)), some (.list ys) => if xs.length + ys.length ≤ cap then some (.nx (setE i (.ow (xs ++ ys)) Γ)) else none | _, _ => none) := id rfl
@[simp] theorem e_iOwn {j : Nat} {Γ : En} : iOwn j Γ = (match Γ[j]? with | some (some (.ow xs)) => some xs | _ => none) := id rfl
@[simp] theorem e_iOwnE {j : Nat} {Γ : En} : iOwnE j Γ = (match Γ[j]? with | some (some (.ow xs)) => some (enumD xs) | _ => none) := id rfl
@[simp] theorem e_gTpl2 {g h : PyData → En → Option En} {a b : PyData} {Γ : En} : gTpl 2 (gsCons g (gsCons h gsNil)) (.tuple [a, b]) Γ = (g a Γ).bind fun Γ1 => (h b Γ1).bind fun Γ2 => some Γ2 := by
  unfold gTpl gsCons gsNil
  simp
abbrev nums (ns : List Int) : List PyData := ns.map PyData.int
abbrev rowD (r : List Int) : PyData := .list (nums r)
abbrev rows (o : List (List Int)) : List PyData := o.map rowD
theorem atI_of {α : Type} {xs : List α} {z : Int} {v : α} (h0 : 0 ≤ z) (h : xs[z.toNat]? = some v) : atI xs z = some v := by
  unfold atI ixN
  have hl := (List.getElem?_eq_some_iff.mp h).1
  rw [if_pos h0, if_pos (by omega)]
  exact h
theorem atI_ints {ns : List Int} {z v : Int} (h0 : 0 ≤ z) (h : ns[z.toNat]? = some v) : atI (nums ns) z = some (.int v) := atI_of h0 (by rw [List.getElem?_map, h]; rfl)
theorem atI_rows {o : List (List Int)} {z : Int} {r : List Int} (h0 : 0 ≤ z) (h : o[z.toNat]? = some r) : atI (rows o) z = some (rowD r) := atI_of h0 (by rw [List.getElem?_map, h]; rfl)
theorem lcD_rows {i : Nat} {c : En → Option Bool} {fe : En → Option PyData} {Γ : En} (p : List Int → Bool) (F : List Int → PyData) : ∀ (ns : List (List Int)), (∀ n ∈ ns, c (setE i (.fz (rowD n)) Γ) = some (p n)) → (∀ n ∈ ns, p n = true → fe (setE i (.fz (rowD n)) Γ) = some (F n)) →
    lcD (gNm i) c fe Γ (rows ns) = some ((ns.filter p).map F)
  | [], _, _ => rfl
  | n :: ns, hc, hf => by
    have ih := lcD_rows p F ns (fun m hm => hc m (List.mem_cons_of_mem _ hm)) (fun m hm => hf m (List.mem_cons_of_mem _ hm))
    show (gNm i (rowD n) Γ).bind _ = _
    rw [e_gNm, Option.bind_some, hc n List.mem_cons_self, Option.bind_some]
    by_cases hp : p n = true
    · rw [if_pos hp, hf n List.mem_cons_self hp, Option.bind_some]
      show (lcD (gNm i) c fe Γ (rows ns)).map _ = _
      rw [ih, List.filter_cons, if_pos hp]; rfl
    · rw [if_neg hp, List.filter_cons, if_neg hp]; exact ih
theorem forD_fold {α β γ : Type} {g : PyData → En → Option En} {body : En → Option Out} (emb : α → PyData) (I : β → γ → En) (step : β → α → β) (Pr : β → List α → Prop)
    (h : ∀ b y x xs, Pr b (x :: xs) → Pr (step b x) xs ∧ ∃ y', (g (emb x) (I b y)).bind body = some (.nx (I (step b x) y'))) :
    ∀ (xs : List α) (b : β) (y : γ), Pr b xs → ∃ y', forD g body (xs.map emb) (I b y) = some (.nx (I (xs.foldl step b) y')) ∧ Pr (xs.foldl step b) []
  | [], b, y, h0 => ⟨y, rfl, h0⟩
  | x :: xs, b, y, h0 => by
    obtain ⟨h1, y1, h2⟩ := h b y x xs h0
    obtain ⟨y2, h3, h4⟩ := forD_fold emb I step Pr h xs (step b x) y1 h1
    refine ⟨y2, ?_, h4⟩
    rw [List.map_cons]
    unfold forD
    cases q : g (emb x) (I b y) with
    | none => rw [q] at h2; cases h2
    | some Γ1 =>
      rw [q, Option.bind_some] at h2
      rw [Option.bind_some, h2]
      exact h3
theorem forD_inv {α : Type} {g : PyData → En → Option En} {body : En → Option Out} (emb : α → PyData) (Q : List α → En → Prop) (h : ∀ x xs Γ, Q (x :: xs) Γ → ∃ Γ', (g (emb x) Γ).bind body = some (.nx Γ') ∧ Q xs Γ') :
    ∀ (xs : List α) (Γ : En), Q xs Γ → ∃ Γ', forD g body (xs.map emb) Γ = some (.nx Γ') ∧ Q [] Γ'
  | [], Γ, h0 => ⟨Γ, rfl, h0⟩
  | x :: xs, Γ, h0 => by
    obtain ⟨Γ1, h1, h2⟩ := h x xs Γ h0
    obtain ⟨Γ2, h3, h4⟩ := forD_inv emb Q h xs Γ1 h2
    refine ⟨Γ2, ?_, h4⟩
    rw [List.map_cons]
    unfold forD
    cases q : g (emb x) Γ with
    | none => rw [q] at h1; cases h1
    | some Γ3 =>
      rw [q, Option.bind_some] at h1
      rw [Option.bind_some, h1]
      exact h3
theorem rng_map (n : Nat) : rngD 0 n = (List.range n).map fun (k : Nat) => PyData.int (k : Int) := by unfold rngD; simp
end
end Bd
namespace Com
open PySem L2 Bd
noncomputable section
def g_law_cell : En → Option Out :=
  (oSeq (oIf (bOf (b2 pLt (gSl 1) (dOf (callD pLen (aCons (gSl 0) aNil)))))
  (oSeq (oRet (b2 pIx (gSl 0) (gSl 1)))
  oNil)
  oNil)
  (oSeq (oRet (fzOf (kC (.int 0))))
  oNil))
def m_law_cell : List PyData → Option Sl := mirror 2 g_law_cell
def g_law_digits_b1 : En → Option Out :=
  (oSeq (oApp 3 (dOf (b2 pMod (gSl 0) (gSl 1))))
  (oSeq (oSet 0 (fzOf (dOf (b2 pDiv (gSl 0) (gSl 1)))))
  oNil))
def g_law_digits : En → Option Out :=
  (oSeq (oSet 3 (dLst aNil))
  (oSeq (oFor (iR1 (gSl 2)) (gNm 4)
  g_law_digits_b1)
  (oSeq (oRetV 3)
  oNil)))
def m_law_digits : List PyData → Option Sl := mirror 5 g_law_digits
def g_law_mixed_b1 : En → Option Out :=
  (oSeq (oSet 5 (fzOf (dOf (b2 pMod (dOf (b2 pMul (dOf (b2 pAdd (dOf (b2 pAdd (dOf (b2 pAdd (dOf (b2 pMod (gSl 0) (kC (.int 998244353)))) (dOf (b2 pMul (dOf (b2 pMul (kC (.int 31)) (gSl 4))) (gSl 4))))) (dOf (b2 pMul (kC (.int 1013)) (gSl 4))))) (kC (.int 1)))) (kC (.int 48271)))) (kC (.int 2147483647))))))
  (oSeq (oSet 6 (fzOf (dOf (b2 pMod (dOf (b2 pMul (dOf (b2 pAdd (dOf (b2 pAdd (dOf (b2 pDiv (gSl 5) (kC (.int 7)))) (dOf (b2 pMul (dOf (b2 pMod (dOf (b2 pDiv (gSl 0) (kC (.int 1009)))) (kC (.int 10007)))) (kC (.int 17)))))) (gSl 4))) (kC (.int 69621)))) (kC (.int 2147483629))))))
  (oSeq (oApp 3 (dOf (b2 pMod (dOf (b2 pDiv (gSl 6) (kC (.int 11)))) (gSl 1))))
  oNil)))
def g_law_mixed : En → Option Out :=
  (oSeq (oSet 3 (dLst aNil))
  (oSeq (oFor (iR1 (gSl 2)) (gNm 4)
  g_law_mixed_b1)
  (oSeq (oRetV 3)
  oNil)))
def m_law_mixed : List PyData → Option Sl := mirror 7 g_law_mixed
def g_law_row : En → Option Out :=
  (oSeq (oIf (bOf (b2 pGe (dOf (callD pAbs (aCons (gSl 0) aNil))) (dOf (b2 pPow (kC (.int 10)) (kC (.int 18))))))
  (oSeq (oRet (callD m_law_digits (aCons (gFz 0) (aCons (gFz 1) (aCons (gFz 2) aNil)))))
  oNil)
  oNil)
  (oSeq (oRet (callD m_law_mixed (aCons (gFz 0) (aCons (gFz 1) (aCons (gFz 2) aNil)))))
  oNil))
def m_law_row : List PyData → Option Sl := mirror 3 g_law_row
theorem iR1_nat {f : En → Option PyData} {Γ : En} {n : Nat} (h : f Γ = some (.int (n : Int))) (hn : n < 2 ^ 60) : iR1 f Γ = some ((List.range n).map fun (k : Nat) => PyData.int (k : Int)) := by
  unfold iR1
  rw [h]
  dsimp only
  rw [big_eq, if_pos (by omega), Int.toNat_natCast, rng_map]
theorem cell_spec (s : List Int) (k : Nat) : ∃ c, m_law_cell [.list (nums s), .int (k : Int)] = some (.fz (.int c)) := by
  unfold m_law_cell mirror g_law_cell startE
  by_cases h : (k : Int) < s.length
  · obtain ⟨c, hc⟩ : ∃ c, s[k]? = some c := ⟨s[k], by simp⟩
    have ha : atI (nums s) (k : Int) = some (.int c) := atI_ints (by omega) (by simpa using hc)
    refine ⟨c, ?_⟩
    simp [h, ha]
  · refine ⟨0, ?_⟩
    simp [h]
def Within (b : Int) (ds : List Int) : Prop := ∀ d ∈ ds, 0 ≤ d ∧ d < b
theorem Within.snoc {b : Int} {ds : List Int} {d : Int} (h : Within b ds) (h0 : 0 ≤ d) (h1 : d < b) : Within b (ds ++ [d]) := fun x hx => by
  rcases List.mem_append.mp hx with q | q
  · exact h x q
  · rw [List.mem_singleton] at q; subst q; exact ⟨h0, h1⟩
theorem mul_l (j : Int) {i : Int} (h : -(2 ^ 64) < i ∧ i < 2 ^ 64) : mulB i j = true := by
  unfold mulB; rw [big_eq, Bool.or_eq_true]; left; simp only [Bool.and_eq_true, decide_eq_true_eq]; exact h
end
end Com
namespace Com
open PySem L2 Bd
noncomputable section
@[simp] theorem e_pEqI {a b : Int} : pEq (.int a) (.int b) = some (.fz (.bool (a == b))) := id rfl
def IsOrd (o : List (List Int)) : Prop := ∀ (j : Nat) (r : List Int), o[j]? = some r → r.Pairwise (· < ·) ∧ (∀ x ∈ r, 0 ≤ x ∧ x < (j : Int)) ∧ ∀ x ∈ r, ∀ r', o[x.toNat]? = some r' → ∀ y ∈ r', y ∈ r
theorem nodup_bound : ∀ (n : Nat) (l : List Int), l.Nodup → (∀ x ∈ l, 0 ≤ x ∧ x < (n : Int)) → l.length ≤ n
  | 0, l, _, h => by
    cases l with
    | nil => exact Nat.le_refl _
    | cons a l => have := h a List.mem_cons_self; omega
  | n + 1, l, hn, h => by
    by_cases hm : (n : Int) ∈ l
    · have h1 := nodup_bound n (l.erase (n : Int)) (hn.erase _) fun x hx => by
        have h2 := h x (List.mem_of_mem_erase hx)
        have h3 : x ≠ (n : Int) := ((hn.mem_erase_iff).mp hx).1
        constructor <;> omega
      have h4 := List.length_erase_of_mem hm
      have h5 : 0 < l.length := List.length_pos_of_mem hm
      omega
    · have h1 := nodup_bound n l hn fun x hx => by
        have h2 := h x hx
        have h3 : x ≠ (n : Int) := fun e => hm (e ▸ hx)
        constructor <;> omega
      omega
theorem lt_nodup {l : List Int} (h : l.Pairwise (· < ·)) : l.Nodup := h.imp fun h => by omega
theorem sortU_lt (ns : List Int) : (sortU ns).Pairwise (· < ·) := by
  have h1 : (sortU ns).Pairwise (· ≤ ·) := sortI_sorted _
  have h2 : (sortU ns).Nodup := (sortI_perm (uniq ns)).nodup_iff.mpr (uniq_nodup ns)
  have h3 := List.pairwise_and_iff.mpr ⟨h1, h2⟩
  exact h3.imp fun h => by have := h.1; have := h.2; omega
theorem mem_sortU {x : Int} {ns : List Int} : x ∈ sortU ns ↔ x ∈ ns := by
  unfold sortU
  rw [(sortI_perm _).mem_iff, mem_uniq]
theorem IsOrd.snoc {o : List (List Int)} {r : List Int} (h : IsOrd o) (h1 : r.Pairwise (· < ·)) (h2 : ∀ x ∈ r, 0 ≤ x ∧ x < (o.length : Int)) (h3 : ∀ x ∈ r, ∀ r', o[x.toNat]? = some r' → ∀ y ∈ r', y ∈ r) : IsOrd (o ++ [r]) := by
  intro j q hj
  have old : ∀ (x : Int), 0 ≤ x → x < (o.length : Int) → (o ++ [r])[x.toNat]? = o[x.toNat]? := fun x a b => List.getElem?_append_left (by omega)
  by_cases hl : j < o.length
  · rw [List.getElem?_append_left hl] at hj
    obtain ⟨a, b, c⟩ := h j q hj
    exact ⟨a, b, fun x hx r' hr => by rw [old x (b x hx).1 (by have := (b x hx).2; omega)] at hr; exact c x hx r' hr⟩
  · rw [List.getElem?_append_right (by omega)] at hj
    obtain ⟨e1, e2⟩ := List.getElem?_eq_some_iff.mp hj
    have : j - o.length = 0 := by simp at e1; omega
    have ej : j = o.length := by omega
    subst ej
    simp at e2
    subst e2
    exact ⟨h1, h2, fun x hx r' hr => by rw [old x (h2 x hx).1 (h2 x hx).2] at hr; exact h3 x hx r' hr⟩
theorem IsOrd.row_len {o : List (List Int)} (h : IsOrd o) {j : Nat} {r : List Int} (hj : o[j]? = some r) : r.length ≤ j := by
  obtain ⟨a, b, _⟩ := h j r hj
  exact nodup_bound j r (lt_nodup a) b
theorem e_sortedSet {ns : List Int} (h1 : ns.length < 4000) (h2 : (uniq ns).length < 64) : pSortedSet [.list (nums ns)] = some (.ow (nums (sortU ns))) := by
  unfold pSortedSet
  dsimp only
  rw [toInts_map, Option.bind_some, if_pos ⟨by rw [big_eq]; exact h1, h2⟩]
structure Inn (o : List (List Int)) (ds : List Int) (hi : Nat) (s : Nat × List Int) (rest : List Nat) : Prop where
  low : ∀ k ∈ rest, k < hi
  at' : s.1 + rest.length ≤ ds.length
  len : s.2.length + 15 * rest.length ≤ 15 * hi
  mem : ∀ x ∈ s.2, 0 ≤ x ∧ x < (hi : Int)
  cl : ∀ x ∈ s.2, ∀ r', o[x.toNat]? = some r' → ∀ y ∈ r', y ∈ s.2
end
end Com
namespace Com
open PySem L2 Bd
noncomputable section
def Shp (n : Nat) (d : PyData) : Prop := d.canLay0 = true ∧ d.depth ≤ n
theorem shp_int (n : Nat) (i : Int) : Shp n (.int i) := ⟨by simp [PyData.canLay0], by simp [PyData.depth]⟩
theorem lay_all : ∀ (xs : List PyData), (∀ x ∈ xs, x.canLay0 = true) → PyData.canLayAll0 xs = true
  | [], _ => by simp [PyData.canLayAll0]
  | x :: xs, h => by
    simp only [PyData.canLayAll0]
    rw [h x List.mem_cons_self, lay_all xs fun y hy => h y (List.mem_cons_of_mem _ hy)]; rfl
theorem depth_all {n : Nat} : ∀ (xs : List PyData), (∀ x ∈ xs, x.depth ≤ n) → PyData.depthAll xs ≤ n
  | [], _ => by simp [PyData.depthAll]
  | x :: xs, h => by
    simp only [PyData.depthAll]
    exact Nat.max_le.mpr ⟨h x List.mem_cons_self, depth_all xs fun y hy => h y (List.mem_cons_of_mem _ hy)⟩
theorem shp_list {n : Nat} {xs : List PyData} (h : ∀ x ∈ xs, Shp n x) : Shp (n + 1) (.list xs) :=
  ⟨by simp only [PyData.canLay0]; exact lay_all xs fun x hx => (h x hx).1, by simp only [PyData.depth]; exact Nat.succ_le_succ (depth_all xs fun x hx => (h x hx).2)⟩
theorem shp_nums (n : Nat) (ns : List Int) : Shp (n + 1) (.list (nums ns)) := shp_list fun x hx => by
  obtain ⟨i, _, rfl⟩ := List.mem_map.mp hx
  exact shp_int n i
theorem shp_rows (n : Nat) (o : List (List Int)) : Shp (n + 2) (.list (rows o)) := shp_list fun x hx => by
  obtain ⟨i, _, rfl⟩ := List.mem_map.mp hx
  exact shp_nums n i
theorem Shp.ok {n : Nat} {d : PyData} (h : Shp n d) (hn : n ≤ 64) : SeqAt.shaped d = true := by
  unfold SeqAt.shaped
  rw [h.1, decide_eq_true (Nat.le_trans h.2 hn)]; rfl
theorem pEq_self {n : Nat} {d : PyData} (h : Shp n d) (hn : n ≤ 64) : pEq d d = some (.fz (.bool true)) := by
  unfold pEq
  rw [h.ok hn, Bool.and_self, if_pos rfl, SeqAt.eqv_refl d h.1]
theorem pNe_self {n : Nat} {d : PyData} (h : Shp n d) (hn : n ≤ 64) : pNe d d = some (.fz (.bool false)) := by
  unfold pNe
  rw [h.ok hn, Bool.and_self, if_pos rfl, SeqAt.eqv_refl d h.1]; rfl
theorem pEq_rows (o : List (List Int)) : pEq (.list (rows o)) (.list (rows o)) = some (.fz (.bool true)) := pEq_self (shp_rows 0 o) (by decide)
theorem pNe_rows (o : List (List Int)) : pNe (.list (rows o)) (.list (rows o)) = some (.fz (.bool false)) := pNe_self (shp_rows 0 o) (by decide)
theorem pNe_nums (o : List Int) : pNe (.list (nums o)) (.list (nums o)) = some (.fz (.bool false)) := pNe_self (shp_nums 0 o) (by decide)
@[simp] theorem e_pNeI {a b : Int} : pNe (.int a) (.int b) = some (.fz (.bool (!(a == b)))) := id rfl
@[simp] theorem e_pMax {ns : List Int} : pMax [.list (nums ns)] = (maxOpt ns).map fun m => .fz (.int m) := by
  unfold pMax
  dsimp only
  rw [toInts_map]; rfl
@[simp] theorem e_isiL {xs : List PyData} : isTy "list" (.list xs) = true := by unfold isTy; rfl
@[simp] theorem e_isiI {n : Int} : isTy "int" (.int n) = true := by unfold isTy; rfl
@[simp] theorem e_isiB {n : Int} : isTy "bool" (.int n) = false := by unfold isTy; rfl
theorem copy_rows {i : Nat} {Γ : En} (o : List (List Int)) (h : ∀ r, (dOf (callD pListOf (aCons (gSl i) aNil))) (setE i (.fz (rowD r)) Γ) = some (rowD r)) : lcD (gNm i) bYes (dOf (callD pListOf (aCons (gSl i) aNil))) Γ (rows o) = some (rows o) := by
  rw [lcD_rows (fun _ => true) rowD o (fun _ _ => rfl) (fun r _ _ => h r)]
  rw [List.filter_eq_self.mpr fun _ _ => rfl]
end
end Com
namespace Bd
open PySem L2
noncomputable section
section
variable {S : Sx}
def vChain (p q : PyData → PyData → Option Sl) (f g h : En → Option PyData) : En → Option Sl := fun Γ => (f Γ).bind fun x => (g Γ).bind fun y => match p x y with
  | some (.fz (.bool true)) => (h Γ).bind fun z => q y z
  | some (.fz (.bool false)) => some (.fz (.bool false))
  | _ => none
def vNeg (f : En → Option PyData) : En → Option Sl := fun Γ => match f Γ with
  | some (.int i) => some (.fz (.int (-i)))
  | _ => none
def vRev (f : En → Option PyData) : En → Option Sl := fun Γ => match f Γ with
  | some (.list xs) => some (.ow xs.reverse)
  | _ => none
theorem DpAll.reverse {K : PySem.W.Frag} {F : Hp} : ∀ {vs : List V} {ds : List PyData}, DpAll K F vs ds → DpAll K F vs.reverse ds.reverse
  | _, _, .nil => .nil
  | _, _, .cons h t => by rw [List.reverse_cons, List.reverse_cons]; exact (DpAll.reverse t).snoc h
def noOw (Γ : En) : Bool := Γ.all fun o => match o with
  | some (.ow _) => false
  | _ => true
theorem noOw_at {Γ : En} (h : noOw Γ = true) {i : Nat} {xs : List PyData} (e : Γ[i]? = some (some (.ow xs))) : False := by
  unfold noOw at h
  rw [List.all_eq_true] at h
  have := h _ (List.mem_of_getElem? e)
  cases this
theorem EnR.move {K : PySem.W.Frag} {H0 F H F' H' : Hp} {Γ : En} {σ : St} (E : EnR K H0 F H Γ σ) (n : noOw Γ = true) (h1 : Same F F') (h2 : Same F' H') : EnR K H0 F' H' Γ σ :=
  ⟨h2, fun i s h => by
    obtain ⟨v, e1, e2⟩ := E.sl i s h
    refine ⟨v, e1, ?_⟩
    cases s with
    | fz d => exact dp_mono h1 e2
    | ow xs => exact (noOw_at n h).elim, fun i xs a h _ => (noOw_at n h).elim, fun i j xs ys a h _ _ _ => (noOw_at n h).elim, E.ln⟩
def lcD2 (g : PyData → En → Option En) (c : En → Option Bool) (fi1 : En → Option (List PyData)) (g1 : PyData → En → Option En) (c1 : En → Option Bool) (fe : En → Option PyData) (vs1 : List Nat) (Γ : En) : List PyData → Option (List PyData)
  | [] => some []
  | x :: xs => (g x Γ).bind fun Γ1 => (c Γ1).bind fun b => if b = true then (if noOw Γ1 = true then (fi1 Γ1).bind fun ds1 => (lcD g1 c1 fe (wipeE Γ1 vs1) ds1).bind fun ys => (lcD2 g c fi1 g1 c1 fe vs1 Γ xs).map (ys ++ ·) else none) else lcD2 g c fi1 g1 c1 fe vs1 Γ xs
def vLc2 (fi : En → Option (List PyData)) (g : PyData → En → Option En) (c : En → Option Bool) (fi1 : En → Option (List PyData)) (g1 : PyData → En → Option En) (c1 : En → Option Bool) (fe : En → Option PyData) (vs vs1 : List Nat) : En → Option Sl := fun Γ =>
  (fi Γ).bind fun ds => (lcD2 g c fi1 g1 c1 fe vs1 (wipeE Γ vs) ds).bind fun out => if out.length < cap then some (.ow out) else none
end
end
end Bd
namespace Bd
open PySem L2
noncomputable section
inductive S2 where
  | sl (s : Sl) | dw (xss : List (List PyData))
abbrev En2 := List (Option S2)
def prj1 : Option S2 → Option Sl
  | some (.sl s) => some s
  | _ => none
def prj (Θ : En2) : En := Θ.map prj1
def vw1 : Option S2 → Option Sl
  | some (.sl s) => some s
  | some (.dw xss) => some (.fz (.list (xss.map PyData.list)))
  | none => none
def vw (Θ : En2) : En := Θ.map vw1
inductive DwC (K : PySem.W.Frag) (F H : Hp) : List V → List (List PyData) → Prop
  | nil : DwC K F H [] []
  | cons {b : Addr} {vs us : List V} {xs : List PyData} {xss : List (List PyData)} : F b = none → H b = some (.lst vs) → DpAll K F vs xs → DwC K F H us xss → DwC K F H (.ref b :: us) (xs :: xss)
def DwV (K : PySem.W.Frag) (F H : Hp) (xss : List (List PyData)) (v : V) : Prop :=
  ∃ a us, v = .ref a ∧ F a = none ∧ H a = some (.lst us) ∧ V.ref a ∉ us ∧ us.Nodup ∧ DwC K F H us xss
def DA (H : Hp) (v : V) (b : Addr) : Prop := ∃ a us, v = .ref a ∧ H a = some (.lst us) ∧ (b = a ∨ V.ref b ∈ us)
section
variable {K : PySem.W.Frag} {F H F' H' : Hp}
theorem DwC.mem : ∀ {us : List V} {xss : List (List PyData)} {b : Addr}, DwC K F H us xss → V.ref b ∈ us → F b = none ∧ ∃ vs, H b = some (.lst vs)
  | _, _, _, .nil, h => by cases h
  | _, _, b, .cons h1 h2 h3 t, h => by
    rcases List.mem_cons.mp h with e | e
    · cases e; exact ⟨h1, _, h2⟩
    · exact DwC.mem t e
theorem DwC.move (s : Same F F') : ∀ {us : List V} {xss : List (List PyData)}, DwC K F H us xss → (∀ b, V.ref b ∈ us → H' b = H b ∧ F' b = none) → DwC K F' H' us xss
  | _, _, .nil, _ => .nil
  | _, _, .cons h1 h2 h3 t, k => by
    obtain ⟨e1, e2⟩ := k _ List.mem_cons_self
    exact .cons e2 (e1.trans h2) (dpAll_mono s h3) (DwC.move s t fun b hb => k b (List.mem_cons_of_mem _ hb))
theorem DwC.get : ∀ {us : List V} {xss : List (List PyData)} {i : Nat} {u : V}, DwC K F H us xss → us[i]? = some u → ∃ b vs xs, u = .ref b ∧ xss[i]? = some xs ∧ F b = none ∧ H b = some (.lst vs) ∧ DpAll K F vs xs
  | _, _, _, _, .nil, h => by simp at h
  | _, _, 0, _, .cons h1 h2 h3 t, h => by simp at h; exact ⟨_, _, _, h.symm, rfl, h1, h2, h3⟩
  | _, _, i + 1, u, .cons h1 h2 h3 t, h => by
    obtain ⟨b, vs, xs, e1, e2, e3⟩ := DwC.get (i := i) (u := u) t (by simpa using h)
    exact ⟨b, vs, xs, e1, by simpa using e2, e3⟩
theorem DwC.length : ∀ {us : List V} {xss : List (List PyData)}, DwC K F H us xss → us.length = xss.length
  | _, _, .nil => rfl
  | _, _, .cons _ _ _ t => by rw [List.length_cons, List.length_cons, DwC.length t]
theorem DwC.snoc {b : Addr} {vs : List V} {xs : List PyData} (h1 : F b = none) (h2 : H b = some (.lst vs)) (h3 : DpAll K F vs xs) : ∀ {us : List V} {xss : List (List PyData)}, DwC K F H us xss → DwC K F H (us ++ [.ref b]) (xss ++ [xs])
  | _, _, .nil => .cons h1 h2 h3 .nil
  | _, _, .cons a1 a2 a3 t => .cons a1 a2 a3 (DwC.snoc h1 h2 h3 t)
theorem DwC.dp (s : Same F F') : ∀ {us : List V} {xss : List (List PyData)}, DwC K F H us xss → (∀ b, V.ref b ∈ us → F' b = H b) → DpAll K F' us (xss.map PyData.list)
  | _, _, .nil, _ => .nil
  | _, _, .cons h1 h2 h3 t, k => .cons (.lst (SqL.of ((k _ List.mem_cons_self).trans h2)) (dpAll_mono s h3)) (DwC.dp s t fun b hb => k b (List.mem_cons_of_mem _ hb))
theorem DwV.own {xss : List (List PyData)} {v : V} {b : Addr} (h : DwV K F H xss v) (d : DA H v b) : F b = none ∧ ∃ vs, H b = some (.lst vs) := by
  obtain ⟨a, us, rfl, h1, h2, _, _, h3⟩ := h
  obtain ⟨a', us', e, e1, e2⟩ := d
  cases e
  rw [h2] at e1; cases e1
  rcases e2 with rfl | e2
  · exact ⟨h1, _, h2⟩
  · exact h3.mem e2
theorem DwV.da {xss : List (List PyData)} {v : V} (h : DwV K F H xss v) (k : ∀ b, DA H v b → H' b = H b) {b : Addr} : DA H' v b ↔ DA H v b := by
  obtain ⟨a, us, rfl, _, h2, _⟩ := h
  have ha : H' a = H a := k a ⟨a, us, rfl, h2, .inl rfl⟩
  constructor
  · rintro ⟨a', us', e, e1, e2⟩
    cases e
    exact ⟨a, us', rfl, by rw [← ha]; exact e1, e2⟩
  · rintro ⟨a', us', e, e1, e2⟩
    cases e
    exact ⟨a, us', rfl, by rw [ha]; exact e1, e2⟩
theorem DwV.move {xss : List (List PyData)} {v : V} (h : DwV K F H xss v) (s : Same F F') (k : ∀ b, DA H v b → H' b = H b ∧ F' b = none) : DwV K F' H' xss v := by
  obtain ⟨a, us, rfl, h1, h2, h3, h4, h5⟩ := h
  obtain ⟨e1, e2⟩ := k a ⟨a, us, rfl, h2, .inl rfl⟩
  exact ⟨a, us, rfl, e2, e1.trans h2, h3, h4, h5.move s fun b hb => k b ⟨a, us, rfl, h2, .inr hb⟩⟩
theorem DwV.sub {xss : List (List PyData)} {v : V} (u : Sub F H F' H') (h : DwV K F H xss v) : DwV K F' H' xss v := h.move u.f fun b hb => by
  obtain ⟨h1, vs, h2⟩ := h.own hb
  exact ⟨(u.h b _ h2).trans h2.symm, u.o b _ h2 h1⟩
end
structure EnR2 (K : PySem.W.Frag) (H0 F H : Hp) (Θ : En2) (σ : St) : Prop where
  en : EnR K H0 F H (prj Θ) σ
  dw : ∀ (i : Nat) (xss : List (List PyData)), Θ[i]? = some (some (.dw xss)) → ∃ v, σ[i]? = some (some v) ∧ DwV K F H xss v ∧ ∀ b, DA H v b → H0 b = none
  dd : ∀ (i j : Nat) (xss yss : List (List PyData)) (v u : V) (b : Addr), Θ[i]? = some (some (.dw xss)) → Θ[j]? = some (some (.dw yss)) → σ[i]? = some (some v) → σ[j]? = some (some u) → DA H v b → DA H u b → i = j
  dx : ∀ (i j : Nat) (xss : List (List PyData)) (ys : List PyData) (v : V) (b : Addr), Θ[i]? = some (some (.dw xss)) → Θ[j]? = some (some (.sl (.ow ys))) → σ[i]? = some (some v) → σ[j]? = some (some (.ref b)) → DA H v b → False
structure StR2 (K : PySem.W.Frag) (F0 H0 F H : Hp) (Θ : En2) (σ : St) : Prop where
  en : EnR2 K H0 F H Θ σ
  su : Sub F0 H0 F H
theorem EnR2.mono {K : PySem.W.Frag} {H0 F H F' H' : Hp} {Θ : En2} {σ : St} (E : EnR2 K H0 F H Θ σ) (u : Sub F H F' H') : EnR2 K H0 F' H' Θ σ := by
  have keep : ∀ {i : Nat} {xss : List (List PyData)} {v : V}, Θ[i]? = some (some (.dw xss)) → σ[i]? = some (some v) → ∀ b, DA H' v b ↔ DA H v b := fun {i xss v} h1 h2 b => by
    obtain ⟨v', e1, e2, _⟩ := E.dw i xss h1
    rw [h2] at e1; cases e1
    exact e2.da fun b hb => by
      obtain ⟨_, vs, q⟩ := e2.own hb
      exact (u.h b _ q).trans q.symm
  refine ⟨E.en.mono u, fun i xss h => ?_, fun i j xss yss v w b h1 h2 h3 h4 h5 h6 => ?_, fun i j xss ys v b h1 h2 h3 h4 h5 => ?_⟩
  · obtain ⟨v, e1, e2, e3⟩ := E.dw i xss h
    exact ⟨v, e1, e2.sub u, fun b hb => e3 b ((keep h e1 b).mp hb)⟩
  · exact E.dd i j xss yss v w b h1 h2 h3 h4 ((keep h1 h3 b).mp h5) ((keep h2 h4 b).mp h6)
  · exact E.dx i j xss ys v b h1 h2 h3 h4 ((keep h1 h3 b).mp h5)
theorem StR2.mono {K : PySem.W.Frag} {F0 H0 F H F' H' : Hp} {Θ : En2} {σ : St} (R : StR2 K F0 H0 F H Θ σ) (u : Sub F H F' H') : StR2 K F0 H0 F' H' Θ σ := ⟨R.en.mono u, R.su.trans u⟩
inductive Out2 where
  | nx (Θ : En2) | rt (s : S2)
def S2N (K : PySem.W.Frag) (H0 F H : Hp) : S2 → V → Prop
  | .sl s, v => SlN K H0 F H s v
  | .dw xss, v => DwV K F H xss v ∧ ∀ b, DA H v b → H0 b = none
section
variable {S : Sx}
def oNil2 : En2 → Option Out2 := fun Θ => some (.nx Θ)
def oSeq2 (g h : En2 → Option Out2) : En2 → Option Out2 := fun Θ => match g Θ with
  | some (.nx Θ') => h Θ'
  | r => r
def dwOk (ds : List Nat) : Nat → En2 → Bool
  | _, [] => true
  | k, some (.dw _) :: Θ => ds.contains k && dwOk ds (k + 1) Θ
  | k, _ :: Θ => dwOk ds (k + 1) Θ
def mrg : En2 → En → En2
  | some (.dw x) :: Θ, _ :: Γ => some (.dw x) :: mrg Θ Γ
  | _ :: Θ, s :: Γ => s.map S2.sl :: mrg Θ Γ
  | _, _ => []
def lft (ds : List Nat) (g : En → Option Out) : En2 → Option Out2 := fun Θ => if dwOk ds 0 Θ = true then (match g (prj Θ) with
  | some (.nx Γ) => if Θ.length = Γ.length then some (.nx (mrg Θ Γ)) else none
  | some (.rt s) => some (.rt (.sl s))
  | _ => none) else none
end
end
end Bd
namespace Bd
open PySem L2
noncomputable section
section
variable {K : PySem.W.Frag}
def flatS : Sl → Bool
  | .fz d => flatD d
  | .ow xs => xs.all flatD
def DAny (H : Hp) (Θ : En2) (σ : St) (b : Addr) : Prop := ∃ (i : Nat) (xss : List (List PyData)) (v : V), Θ[i]? = some (some (.dw xss)) ∧ σ[i]? = some (some v) ∧ DA H v b
open Classical in
def lessF (H : Hp) (Θ : En2) (σ : St) (F : Hp) : Hp := fun b => if DAny H Θ σ b then none else F b
variable {F0 H0 F H F' H' : Hp} {Θ : En2} {σ : St}
theorem EnR2.any (E : EnR2 K H0 F H Θ σ) {b : Addr} (h : DAny H Θ σ b) : F b = none ∧ H0 b = none ∧ ∃ vs, H b = some (.lst vs) := by
  obtain ⟨i, xss, v, h1, h2, h3⟩ := h
  obtain ⟨v', e1, e2, e3⟩ := E.dw i xss h1
  rw [h2] at e1; cases e1
  obtain ⟨q1, q2⟩ := e2.own h3
  exact ⟨q1, e3 b h3, q2⟩
structure Thaw (K : PySem.W.Frag) (F0 H0 F H : Hp) (Θ : En2) (σ : St) (F' H' : Hp) : Prop where
  ff : Same F (lessF H Θ σ F')
  hh : ∀ b, DAny H Θ σ b → H' b = H b ∧ lessF H Θ σ F' b = none ∧ F' b ≠ none
  su : Sub F0 H0 (lessF H Θ σ F') H'
def thw (ts : List Nat) : Nat → En2 → En → En2
  | k, some (.dw x) :: Θ, _ :: Γ => some (.dw x) :: thw ts (k + 1) Θ Γ
  | k, t :: Θ, s :: Γ => (if ts.contains k = true then (match s with
    | some s' => if flatS s' = true then some (S2.sl s') else none
    | none => none) else t) :: thw ts (k + 1) Θ Γ
  | _, _, _ => []
end
section
variable {S : Sx}
def vwG (ds ts : List Nat) (g : En → Option Out) : En2 → Option Out2 := fun Θ => if dwOk ds 0 Θ = true then (match g (vw Θ) with
  | some (.nx Γ) => if Θ.length = Γ.length then some (.nx (thw ts 0 Θ Γ)) else none
  | some (.rt s) => if flatS s = true then some (.rt (.sl s)) else none
  | _ => none) else none
end
end
end Bd
namespace Bd
open PySem L2
noncomputable section
section
variable {S : Sx}
def DwN (K : PySem.W.Frag) (H F' H' : Hp) (xss : List (List PyData)) (v : V) : Prop := DwV K F' H' xss v ∧ ∀ b, DA H' v b → H b = none
def lcDD (g : PyData → En → Option En) (c : En → Option Bool) (fe : En → Option Sl) (Γ : En) : List PyData → Option (List (List PyData))
  | [] => some []
  | x :: xs => (g x Γ).bind fun Γ1 => (c Γ1).bind fun b => if b = true then (match fe Γ1 with
    | some (.ow ys) => (lcDD g c fe Γ xs).map (ys :: ·)
    | _ => none) else lcDD g c fe Γ xs
def vLcD (items : En → Option (List PyData)) (g : PyData → En → Option En) (c : En → Option Bool) (fe : En → Option Sl) (vs : List Nat) : En → Option (List (List PyData)) := fun Γ =>
  (items Γ).bind fun ds => if ds.length < cap then lcDD g c fe (wipeE Γ vs) ds else none
def spDD (K : PySem.W.Frag) (n : Nat) (m : List PyData → Option (List (List PyData))) : Sp := fun vs H Q _ =>
  ∃ F ds xss, Same F H ∧ ds.length = n ∧ DpAll K F vs ds ∧ m ds = some xss ∧ ∀ v F' H', Sub F H F' H' → DwN K H F' H' xss v → Q v H'
structure FnDD (S : Sx) (x : Str) (ps : List Str) (m : List PyData → Option (List (List PyData))) : Prop where
  ex : ∃ (f : Addr) (fd : FuncData) (j : Nat), FnOk S.P S.w S.K S.mg S.base CX0 j f fd ps (spDD S.K ps.length m) ∧ j ≤ S.k ∧ S.mg x = some (.ref f) ∧ PySem.W.keepIn S.K (.ref f) = true ∧ Binds S.K fd ps []
def callDD (p : List PyData → Option (List (List PyData))) (g : En → Option (List PyData)) : En → Option (List (List PyData)) := fun Γ => (g Γ).bind p
def oRetD (f : En → Option (List (List PyData))) : En2 → Option Out2 := fun Θ => (f (prj Θ)).map fun xss => .rt (.dw xss)
def oSetD (i : Nat) (f : En → Option (List (List PyData))) : En2 → Option Out2 := fun Θ => if i < Θ.length then (f (prj Θ)).map fun xss => .nx (Θ.set i (some (.dw xss))) else none
end
end
end Bd
namespace Bd
open PySem L2
noncomputable section
section
variable {K : PySem.W.Frag} {F0 H0 F H F' H' : Hp} {Θ : En2} {σ : St}
end
def appG (G : Nat → List PyData → List PyData) (xss : List (List PyData)) : List (List PyData) := (List.range xss.length).map fun k => G k (xss.getD k [])
section
variable {S : Sx}
def oForApp (j ix : Nat) (f : En → Option PyData) : En2 → Option Out2 := fun Θ => match Θ[j]? with
  | some (some (.dw xss)) => if ix ≠ j ∧ ix < Θ.length ∧ xss.all (fun xs => decide (xs.length < cap)) = true then (f (prj (Θ.set ix none))).map fun d => .nx ((Θ.set ix none).set j (some (.dw (appG (fun _ xs => xs ++ [d]) xss)))) else none
  | _ => none
end
end
end Bd
namespace Bd
open PySem L2
noncomputable section
section
variable {X : Cx}
end
section
variable {S : Sx}
def vListRange (f : En → Option PyData) : En → Option Sl := fun Γ => match f Γ with
  | some (.int j) => if -(big (2 ^ 60) : Int) ≤ j ∧ j ≤ (cap : Int) then some (.ow (rngD 0 j.toNat)) else none
  | _ => none
def oAppF (j : Nat) (f : En → Option PyData) : En2 → Option Out2 := fun Θ => match Θ[j]?, f (prj Θ) with
  | some (some (.dw xss)), some _ => if xss.length < cap then some (.nx (Θ.set j none)) else none
  | _, _ => none
def vSetD (i : Nat) (f : En → Option (List (List PyData))) : En2 → Option Out2 := fun Θ => if i < Θ.length then (f (vw Θ)).bind fun xss => if (xss.all fun xs => xs.all flatD) = true then some (.nx (Θ.set i (some (.dw xss)))) else none else none
def start2 (n : Nat) (ds : List PyData) : En2 := (startE n ds).map (Option.map S2.sl)
def mirrorD (n : Nat) (g : En2 → Option Out2) (ds : List PyData) : Option (List (List PyData)) := match g (start2 n ds) with
  | some (.rt (.dw xss)) => some xss
  | _ => none
end
end
end Bd
namespace Bd
open PySem L2
noncomputable section
section
variable {S : Sx}
def isNoneD : PyData → Bool
  | .none => true
  | _ => false
def pIsB (neg : Bool) (d e : PyData) : Option Sl := match d, e with
  | .bool a, .bool b => some (.fz (.bool (if neg then !(a == b) else (a == b))))
  | d, .none => some (.fz (.bool (if neg then !isNoneD d else isNoneD d)))
  | _, _ => none
def oSetIx (i : Nat) (fi fe : En → Option PyData) : En → Option Out := fun Γ => match Γ[i]?, fi Γ, fe Γ with
  | some (some (.ow xs)), some (.int k), some d => (ixN xs.length k).map fun j => .nx (setE i (.ow (xs.set j d)) Γ)
  | _, _, _ => none
end
end
end Bd
namespace Bd
open PySem L2
open PyProof.Rows (AllBare)
noncomputable section
structure Fly (P : Program) (w : World) (outer : List Env) (H : Hp) (s : Shared) (C ea : Addr) (a0 : Value) (H' : Hp) (B : Heap) (s' : Shared) : Prop where
  os : s'.os = s.os
  bare : AllBare s'.gens
  kp : ∀ b o, s.heap.get? b = some o → H b = none → b ∉ frs outer → B.get? b = some o
  sl : ∀ b o, s.heap.get? b = some o → b ∈ frs outer → ∃ sl, s'.heap.get? b = some { o with slots := sl }
  fr : ∀ b o, s.heap.get? b = some o → H b = none → H' b = none
  th : ∀ b o, s.heap.get? b = some o → b ∉ frs outer → ∃ o', B.get? b = some o'
  tups : ∀ b xs, H b = some (.tup xs) → H' b = some (.tup xs)
  frzs : ∀ b o u, H b = some (.frz o u) → H' b = some (.frz o u)
  tbls : ∀ b ps, H b = some (.tbl ps) → ∃ more, H' b = some (.tbl (ps ++ more))
  hok : HOk P w H' B
  fly : Heap.FlyingW B outer ea (.ref C) a0 s'.heap
def CXE (P : Program) (w : World) : CXT := fun outer H s E e s' => ∃ ea C a0 H' B, e = .ref ea ∧ Fly P w outer H s C ea a0 H' B s' ∧ E (.ref C) none H'
section
variable {P : Program} {w : World} {outer : List Env} {H H' : Hp} {s s' : Shared} {C ea : Addr} {a0 : Value} {B : Heap}
theorem Fly.move (f : Fly P w outer H s C ea a0 H' B s') {h' : Heap} {t : Nat} (k : Heap.FlyingW B outer ea (.ref C) a0 h') (sm : s'.heap.UpToSlots h') : Fly P w outer H s C ea a0 H' B { s' with heap := h', toks := t } where
  os := f.os
  bare := f.bare
  kp := f.kp
  sl := fun b o e hb => by
    obtain ⟨sl, q⟩ := f.sl b o e hb
    obtain ⟨_, o2, q2, nf⟩ := f.fly.2.2.1.mem hb
    rw [q] at q2; cases q2
    obtain ⟨sl2, q3⟩ := sm b _ q nf
    exact ⟨sl2, q3⟩
  fr := f.fr
  th := f.th
  tups := f.tups
  frzs := f.frzs
  tbls := f.tbls
  hok := f.hok
  fly := k
theorem Fly.un (f : Fly P w outer H s C ea a0 H' B s') : Un (frs outer) [] H H' s.heap s'.heap where
  keep := fun b o e n hb _ => f.fly.1 b o (f.kp b o e n hb)
  slot := fun b o e _ hb _ => f.sl b o e hb
  free := fun b o e n _ => f.fr b o e n
  there := fun b o e _ => by
    by_cases hb : b ∈ frs outer
    · obtain ⟨sl, q⟩ := f.sl b o e hb; exact ⟨_, q⟩
    · obtain ⟨o', q⟩ := f.th b o e hb; exact ⟨o', f.fly.1 b o' q⟩
  tups := f.tups
  frzs := f.frzs
  tbls := f.tbls
end
structure IsCx (X : Cx) (E : XK) : Prop where
  st : X.stack = X.env :: X.outer
  fm : X.env.frame = some X.env.locals
  ex : X.ex = []
  xe : ∀ e s', wpAny (model X.prog X.w) X.A (leaving X.env e) (fun _ s'' => CXE X.prog X.w X.outer X.H_0 X.s_0 E e s'') (fun e' s'' => CXE X.prog X.w X.outer X.H_0 X.s_0 E e' s'') s' → X.xe e s'
abbrev veB : List Value := [.type "ValueError", .type "Exception", .type "BaseException", .type "object"]
structure ExcC (K : PySem.W.Frag) (mg : Str → Option Value) (x : Str) (C : Addr) : Prop where
  mg : mg x = some (.ref C)
  ex : PySem.W.excIn K C veB "ValueError.__new__" = true
end
end Bd
namespace Bd
open PySem L2
noncomputable section
abbrev OutX := Except Str Out
abbrev OutX2 := Except Str Out2
abbrev clsV (mg : Str → Option Value) (C : Str) : Value := (mg C).getD .none
def EndO (K : PySem.W.Frag) (F0 H0 : Hp) (D : Ends) : Out → Prop
  | .nx Γ => ∀ σ F H, StR K F0 H0 F H Γ σ → D.nx σ H
  | .bk Γ => ∀ σ F H, StR K F0 H0 F H Γ σ → D.bk σ H
  | .ct Γ => ∀ σ F H, StR K F0 H0 F H Γ σ → D.ct σ H
  | .rt s => ∀ v F H, Sub F0 H0 F H → SlN K H0 F H s v → D.rt v H
theorem EndO.r {K : PySem.W.Frag} {F0 H0 Hs : Hp} {T : List Nat} {Γ0 : En} {σ0 : St} {D : Ends} {o : Out} (k : EndO K F0 H0 D o) : EndR K F0 H0 T Γ0 σ0 Hs D o := by
  cases o with
  | nx Γ => exact fun σ F H R _ => k σ F H R
  | bk Γ => exact fun σ F H R _ => k σ F H R
  | ct Γ => exact fun σ F H R _ => k σ F H R
  | rt s => exact k
section
variable {S : Sx}
def xOk (g : En → Option Out) : En → Option OutX := fun Γ => (g Γ).map .ok
def xNil : En → Option OutX := fun Γ => some (.ok (.nx Γ))
def xSeq (g h : En → Option OutX) : En → Option OutX := fun Γ => match g Γ with
  | some (.ok (.nx Γ')) => h Γ'
  | r => r
def xIf (c : En → Option Bool) (g h : En → Option OutX) : En → Option OutX := fun Γ => match c Γ with
  | some true => g Γ
  | some false => h Γ
  | none => none
def xRaise (x : Str) (f : En → Option PyData) : En → Option OutX := fun Γ => (f Γ).map fun _ => .error x
def spX (K : PySem.W.Frag) (mg : Str → Option Value) (n : Nat) (m : List PyData → Option (Except Str S2)) : Sp := fun vs H Q E =>
  ∃ F ds r, Same F H ∧ ds.length = n ∧ DpAll K F vs ds ∧ m ds = some r ∧ match r with
    | .ok s => ∀ v F' H', Sub F H F' H' → S2N K H F' H' s v → Q v H'
    | .error C => ∀ F' H', Sub F H F' H' → E (clsV mg C) none H'
structure FnX (S : Sx) (x : Str) (ps : List Str) (m : List PyData → Option (Except Str S2)) : Prop where
  ex : ∃ (f : Addr) (fd : FuncData) (j : Nat), FnOk S.P S.w S.K S.mg S.base (CXE S.P S.w) j f fd ps (spX S.K S.mg ps.length m) ∧ j ≤ S.k ∧ S.mg x = some (.ref f) ∧ PySem.W.keepIn S.K (.ref f) = true ∧ Binds S.K fd ps []
def okD (m : List PyData → Option (Except Str S2)) : List PyData → Option Sl := fun ds => match m ds with
  | some (.ok (.sl s)) => some s
  | _ => none
def okDD (m : List PyData → Option (Except Str S2)) : List PyData → Option (List (List PyData)) := fun ds => match m ds with
  | some (.ok (.dw s)) => some s
  | _ => none
theorem fnX_calm {P : Program} {w : World} {K : PySem.W.Frag} {mg : Str → Option Value} {base : Heap} {j : Nat} {f : Addr} {fd : FuncData} {ps : List Str} {m : List PyData → Option (Except Str S2)} {sp : Sp} (F : FnOk P w K mg base (CXE P w) j f fd ps (spX K mg ps.length m))
    (h : ∀ vs H Q E, sp vs H Q E → spX K mg ps.length m vs H Q E0) : FnOk P w K mg base CX0 j f fd ps sp := by
  refine ⟨fun vs H Q E q => F.len vs H Q E0 (h _ _ _ _ q), fun A outer s H args us vs Q E hr e0 hb hv hs => ?_⟩
  refine codeAny_mono (F.run A outer s H args us vs Q E0 hr e0 hb hv (h _ _ _ _ hs)) fun r s' q => ?_
  cases r with
  | error e => obtain ⟨_, _, _, _, _, _, _, z⟩ := q; exact z.elim
  | ok fl => cases fl <;> exact q
theorem FnX.d {x : Str} {ps : List Str} {m} (G : FnX S x ps m) : FnD S x ps (okD m) := by
  obtain ⟨f, fd, j, F0, hj, hm, hk, hb⟩ := G.ex
  refine ⟨f, fd, j, fnX_calm F0 fun vs H Q E q => ?_, hj, hm, hk, hb⟩
  obtain ⟨F, ds, s, h1, h2, h3, h4, h5⟩ := q
  unfold okD at h4
  split at h4
  · next s' q => cases h4; exact ⟨F, ds, _, h1, h2, h3, q, h5⟩
  · cases h4
theorem FnX.dd {x : Str} {ps : List Str} {m} (G : FnX S x ps m) : FnDD S x ps (okDD m) := by
  obtain ⟨f, fd, j, F0, hj, hm, hk, hb⟩ := G.ex
  refine ⟨f, fd, j, fnX_calm F0 fun vs H Q E q => ?_, hj, hm, hk, hb⟩
  obtain ⟨F, ds, s, h1, h2, h3, h4, h5⟩ := q
  unfold okDD at h4
  split at h4
  · next s' q => cases h4; exact ⟨F, ds, _, h1, h2, h3, q, h5⟩
  · cases h4
def xCall (m : List PyData → Option (Except Str S2)) (g : En → Option (List PyData)) : En → Option OutX := fun Γ => match (g Γ).bind m with
  | some (.ok _) => some (.ok (.nx Γ))
  | some (.error C) => some (.error C)
  | none => none
def upE (Γ : En) : En2 := Γ.map (Option.map S2.sl)
theorem prj_up (Γ : En) : prj (upE Γ) = Γ := by
  unfold prj upE
  rw [List.map_map, show prj1 ∘ Option.map S2.sl = id from funext fun o => by cases o <;> rfl, List.map_id]
theorem EnR.up {K : PySem.W.Frag} {H0 F H : Hp} {Γ : En} {σ : St} (E : EnR K H0 F H Γ σ) : EnR2 K H0 F H (upE Γ) σ := by
  have no : ∀ {i : Nat} {xss : List (List PyData)}, (upE Γ)[i]? = some (some (.dw xss)) → False := fun {i xss} h => by
    unfold upE at h
    rw [List.getElem?_map] at h
    cases q : Γ[i]? with
    | none => rw [q] at h; cases h
    | some o => rw [q] at h; cases o <;> cases h
  exact ⟨by rw [prj_up]; exact E, fun i xss h => (no h).elim, fun i j xss yss v u b h => (no h).elim, fun i j xss ys v b h => (no h).elim⟩
theorem StR.up {K : PySem.W.Frag} {F0 H0 F H : Hp} {Γ : En} {σ : St} (R : StR K F0 H0 F H Γ σ) : StR2 K F0 H0 F H (upE Γ) σ := ⟨R.en.up, R.su⟩
def xSeq2 (g : En → Option OutX) (h : En → Option OutX2) : En → Option OutX2 := fun Γ => match g Γ with
  | some (.ok (.nx Γ')) => h Γ'
  | some (.ok (.rt s)) => some (.ok (.rt (.sl s)))
  | some (.error C) => some (.error C)
  | _ => none
def xTl2 (g : En2 → Option Out2) : En → Option OutX2 := fun Γ => (g (upE Γ)).map .ok
def xTl (g : En → Option Out) : En → Option OutX2 := fun Γ => match g Γ with
  | some (.nx Γ') => some (.ok (.nx (upE Γ')))
  | some (.rt s) => some (.ok (.rt (.sl s)))
  | _ => none
def mirrorX (n : Nat) (g : En → Option OutX2) : List PyData → Option (Except Str S2) := fun ds => match g (startE n ds) with
  | some (.ok (.rt s)) => some (.ok s)
  | some (.ok (.nx _)) => some (.ok (.sl (.fz .none)))
  | some (.error C) => some (.error C)
  | none => none
end
end
end Bd
namespace Bd
open PySem L2
open PyProof.Rows (AllBare)
noncomputable section
section
variable {X : Cx} {pins : List (Addr × Obj)} {σ : St} {H : Hp} {s : Shared} {ea : Addr} {oe : Obj}
end
structure HitC (K : PySem.W.Frag) (C D : Addr) (b : Bool) : Prop where
  ti : PySem.W.instIn K (.ref D) (.type "tuple") = some false
  cl : PySem.W.isClsIn K D = true
  ex : PySem.W.subIn K (.ref D) (.type "BaseException") = some true
  sb : PySem.W.subIn K (.ref C) (.ref D) = some b
def HdOk (X : Cx) (hs : List ExceptHandler) (C : Addr) (q : Ends → St → Hp → Prop) : Prop :=
  ∀ (pins : List (Addr × Obj)) (σ : St) (H : Hp) (s : Shared) (D : Ends) (H1 : Hp) (s1 : Shared) (B : Heap) (a0 : Value) (ea : Addr), Inv X pins σ H1 s1 → Fly X.prog X.w X.stack H1 s1 C ea a0 H B s → q D σ H →
    wpAny (model X.prog X.w) X.A (handleBy (.ref ea) X.env hs) (SP X pins D) X.xe s
end
end Bd
namespace Bd
open PySem L2 Builtin Builtin.ObjectAttr Builtin.Getset_descriptor
noncomputable section
structure XcCls (K : PySem.W.Frag) (C : Addr) : Prop where
  cl : PySem.W.isClsIn K C = true
  ga : PySem.W.findIn K (.ref C) "__getattribute__" = some (some (.builtin "BaseException.__getattribute__"))
  gt : PySem.W.findIn K (.ref C) "__getattr__" = some none
  ca : PySem.W.findIn K (.ref C) "__class__" = some (some (.builtin "object.__class__"))
  be : PySem.W.subIn K (.ref C) (.type "BaseException") = some true
  ob : PySem.W.subIn K (.ref C) (.type "object") = some true
section
variable {prog : Program} {w : World} {A : Around} {E : Value → Shared → Prop} {h : Heap} {g : Array GenState} {d : Drawn} {t : Nat} {os : OsState} {a C : Addr} {o : Obj} {K : PySem.W.Frag}
end
end
end Bd
namespace Bd
open PySem L2
noncomputable section
end
end Bd
namespace Bd
open PySem L2
noncomputable section
section
variable {S : Sx}
theorem HdOk.mono {X : Cx} {hs : List ExceptHandler} {C : Addr} {q q' : Ends → St → Hp → Prop} (h : HdOk X hs C q) (k : ∀ D σ H, σ.length = X.N.length → q' D σ H → q D σ H) : HdOk X hs C q' := fun pins σ H s D H1 s1 B a0 ea I1 f z => h pins σ H s D H1 s1 B a0 ea I1 f (k D σ H I1.len z)
inductive Nms (S : Sx) : List Expr → List Addr → Prop
  | nil : Nms S [] []
  | cons {x : Str} {p : Pos} {D : Addr} {es : List Expr} {ds : List Addr} : S.mg x = some (.ref D) → glB S.sc x = true → (x == ("__debug__" : Str)) = false → Nms S es ds → Nms S (.Name x p :: es) (D :: ds)
structure IsiC (K : PySem.W.Frag) (C B : Addr) (ds : List Addr) : Prop where
  b : PySem.W.kitOne K (.ref C) (.ref B) = some true
  v : PySem.W.kitOne K (.ref C) (.type "ValueError") = some true
  o : PySem.W.kitAny K (.ref C) (ds.map Value.ref) = some false
  c : XcCls K C
def xTry (m : List PyData → Option (Except Str S2)) (g : En → Option (List PyData)) (tb : List (Str × PyData)) : En → Option OutX := fun Γ => match (g Γ).bind m with
  | some (.ok _) => some (.ok (.nx Γ))
  | some (.error c) => (tb.lookup c).map fun d => .ok (.rt (.fz d))
  | none => none
end
end
end Bd
namespace Bd
open PySem L2
noncomputable section
def insD (xs : List PyData) (k : Nat) (d : PyData) : List PyData := xs.take k ++ d :: xs.drop k
section
variable {S : Sx}
def oIns (i : Nat) (fi fe : En → Option PyData) : En → Option Out := fun Γ => match Γ[i]?, fi Γ, fe Γ with
  | some (some (.ow xs)), some (.int k), some d => if 0 ≤ k ∧ k.toNat ≤ xs.length ∧ xs.length < cap then some (.nx (setE i (.ow (insD xs k.toNat d)) Γ)) else none
  | _, _, _ => none
end
end
end Bd
namespace L2
open PySem PySem.Spec PyProof.Rows Bd
section
variable {prog : Program} {w : World} {A : Around} {R : Result → Shared → Prop} {s : Shared} {elt t0 i0 t1 i1 : Expr} {ifs0 ifs1 : List Expr} {scope : Scope} {pos : Pos} {it acc : Value} {env : Env}
end
section
variable {prog : Program} {w : World} {A : Around} {E : Value → Shared → Prop} {s : Shared}
end
section
variable {prog : Program} {w : World} {A : Around} {R : Result → Shared → Prop} {s : Shared}
end
section
variable {X : Cx} {pins : List (Addr × Obj)} {σ : St} {H : Hp} {s : Shared}
end
section
variable {X : Cx}
end
end L2
namespace Bd
open PySem L2
noncomputable section
section
variable {S : Sx}
end
end
end Bd
namespace Bd
open PySem L2
noncomputable section
section
variable {S : Sx}
def fzO : Option S2 → Bool
  | none => true
  | some (.sl (.fz _)) => true
  | _ => false
def onlyD (j : Nat) (Θ : En2) : Bool := (Θ.set j none).all fzO
def oAppD (j : Nat) (f : En → Option Sl) : En2 → Option Out2 := fun Θ => match Θ[j]?, f (prj Θ) with
  | some (some (.dw xss)), some (.ow xs) => if onlyD j Θ = true ∧ xss.length < cap then some (.nx (Θ.set j (some (.dw (xss ++ [xs]))))) else none
  | _, _ => none
def oRetDV (i : Nat) : En2 → Option Out2 := fun Θ => match Θ[i]? with
  | some (some (.dw xss)) => some (.rt (.dw xss))
  | _ => none
end
end
end Bd
namespace Com
open PySem L2 Bd
noncomputable section
section
variable {f g h : En → Option PyData} {Γ : En} {p q : PyData → PyData → Option Sl}
@[simp] theorem e_vChain : vChain p q f g h Γ = (f Γ).bind fun x => (g Γ).bind fun y => match p x y with
  | some (.fz (.bool true)) => (h Γ).bind fun z => q y z
  | some (.fz (.bool false)) => some (.fz (.bool false))
  | _ => none := id rfl
@[simp] theorem e_vNeg : vNeg f Γ = (match f Γ with | some (.int i) => some (.fz (.int (-i))) | _ => none) := id rfl
@[simp] theorem e_vRev : vRev f Γ = (match f Γ with | some (.list xs) => some (.ow xs.reverse) | _ => none) := id rfl
@[simp] theorem e_oInt : oInt f Γ = (match f Γ with | some (.int i) => some (some i) | _ => none) := id rfl
@[simp] theorem e_dSl {a b} : dSl f a b Γ = (match f Γ, a Γ, b Γ with | some (.list xs), some lo, some hi => some (.ow (cutD xs lo hi)) | _, _, _ => none) := id rfl
@[simp] theorem e_vNot {fs : En → Option Sl} : vNot fs Γ = (match fs Γ with | some (.fz (.bool b)) => some (.fz (.bool (!b))) | _ => none) := id rfl
@[simp] theorem e_vOr {fs gs : En → Option Sl} : vOr fs gs Γ = (match fs Γ with | some (.fz (.bool true)) => some (.fz (.bool true)) | some (.fz (.bool false)) => gs Γ | _ => none) := id rfl
@[simp] theorem e_vLc2 {fi u c fi1 u1 c1 fe vs vs1} : vLc2 fi u c fi1 u1 c1 fe vs vs1 Γ = (fi Γ).bind fun ds => (lcD2 u c fi1 u1 c1 fe vs1 (wipeE Γ vs) ds).bind fun out => if out.length < cap then some (.ow out) else none := id rfl
end
@[simp] theorem e_pNeB {a b : Bool} : pNe (.bool a) (.bool b) = some (.fz (.bool (!(a == b)))) := id rfl
@[simp] theorem e_pEqB {a b : Bool} : pEq (.bool a) (.bool b) = some (.fz (.bool (a == b))) := id rfl
theorem eqvAll_nums : ∀ (a b : List Int), PyData.eqvAll (nums a) (nums b) = decide (a = b)
  | [], [] => rfl
  | [], b :: bs => by simp [PyData.eqvAll]
  | a :: as, [] => by simp [PyData.eqvAll]
  | a :: as, b :: bs => by
    have ih := eqvAll_nums as bs
    simp only [nums, List.map_cons, PyData.eqvAll]
    rw [show PyData.eqvAll (as.map PyData.int) (bs.map PyData.int) = decide (as = bs) from ih]
    simp [PyData.eqv]
    by_cases h : a = b <;> by_cases h2 : as = bs <;> simp [h, h2]
theorem eqv_nums (a b : List Int) : PyData.eqv (.list (nums a)) (.list (nums b)) = decide (a = b) := by
  simp only [PyData.eqv]; exact eqvAll_nums a b
theorem pEq_nn (a b : List Int) : pEq (.list (nums a)) (.list (nums b)) = some (.fz (.bool (decide (a = b)))) := by
  unfold pEq
  rw [if_pos (by rw [(shp_nums 0 a).ok (by decide), (shp_nums 0 b).ok (by decide)]; rfl), eqv_nums]
theorem flat_nums (r : List Int) : (nums r).all flatD = true := by simp [flatD]
theorem lcD_map {α : Type} {gt : PyData → En → Option En} {fe : En → Option PyData} {Γ : En} (emb : α → PyData) (F : α → PyData) : ∀ (xs : List α), (∀ x ∈ xs, (gt (emb x) Γ).bind fe = some (F x)) → lcD gt bYes fe Γ (xs.map emb) = some (xs.map F)
  | [], _ => rfl
  | x :: xs, h => by
    have ih := lcD_map emb F xs fun y hy => h y (List.mem_cons_of_mem _ hy)
    have hx := h x List.mem_cons_self
    rw [List.map_cons, List.map_cons]
    unfold lcD
    cases q : gt (emb x) Γ with
    | none => rw [q] at hx; cases hx
    | some Γ1 =>
      rw [q, Option.bind_some] at hx
      rw [Option.bind_some, e_bYes, Option.bind_some, if_pos rfl, hx, Option.bind_some, ih]; rfl
theorem lcD_filter {α : Type} {gt : PyData → En → Option En} {c : En → Option Bool} {fe : En → Option PyData} {Γ : En} (emb : α → PyData) (p : α → Bool) (F : α → PyData) : ∀ (xs : List α), (∀ x ∈ xs, (gt (emb x) Γ).bind c = some (p x)) → (∀ x ∈ xs, p x = true → (gt (emb x) Γ).bind fe = some (F x)) → lcD gt c fe Γ (xs.map emb) = some ((xs.filter p).map F)
  | [], _, _ => rfl
  | x :: xs, hc, h => by
    have ih := lcD_filter emb p F xs (fun y hy => hc y (List.mem_cons_of_mem _ hy)) fun y hy => h y (List.mem_cons_of_mem _ hy)
    have hx := h x List.mem_cons_self
    have hcx := hc x List.mem_cons_self
    rw [List.map_cons]
    unfold lcD
    cases q : gt (emb x) Γ with
    | none => rw [q] at hcx; cases hcx
    | some Γ1 =>
      rw [q, Option.bind_some] at hx hcx
      rw [Option.bind_some, hcx, Option.bind_some]
      by_cases hp : p x = true
      · rw [if_pos hp, hx hp, Option.bind_some, ih, List.filter_cons, if_pos hp]; rfl
      · rw [if_neg hp, ih, List.filter_cons, if_neg hp]
theorem cut_take (xs : List PyData) (n : Nat) (h : n ≤ xs.length) : cutD xs none (some (n : Int)) = xs.take n := by
  unfold cutD HT.sIx
  simp
  rw [if_neg (by omega)]
  omega
end
end Com
namespace Com
open PySem L2 Bd
noncomputable section
@[simp] theorem e_prjN : prj [] = [] := id rfl
@[simp] theorem e_prj0 {l : En2} : prj (none :: l) = none :: prj l := id rfl
@[simp] theorem e_prjS {s : Sl} {l : En2} : prj (some (.sl s) :: l) = some s :: prj l := id rfl
@[simp] theorem e_prjD {x : List (List PyData)} {l : En2} : prj (some (.dw x) :: l) = none :: prj l := id rfl
@[simp] theorem e_vwN : vw [] = [] := id rfl
@[simp] theorem e_vw0 {l : En2} : vw (none :: l) = none :: vw l := id rfl
@[simp] theorem e_vwS {s : Sl} {l : En2} : vw (some (.sl s) :: l) = some s :: vw l := id rfl
@[simp] theorem e_vwD {x : List (List PyData)} {l : En2} : vw (some (.dw x) :: l) = some (.fz (.list (x.map PyData.list))) :: vw l := id rfl
@[simp] theorem e_mrgN : mrg [] [] = [] := id rfl
@[simp] theorem e_mrg0 {l : En2} {s : Option Sl} {g : En} : mrg (none :: l) (s :: g) = s.map S2.sl :: mrg l g := id rfl
@[simp] theorem e_mrgS {t : Sl} {l : En2} {s : Option Sl} {g : En} : mrg (some (.sl t) :: l) (s :: g) = s.map S2.sl :: mrg l g := id rfl
@[simp] theorem e_mrgD {x : List (List PyData)} {l : En2} {s : Option Sl} {g : En} : mrg (some (.dw x) :: l) (s :: g) = some (.dw x) :: mrg l g := id rfl
@[simp] theorem e_dwOkN {ds : List Nat} {k : Nat} : dwOk ds k [] = true := id rfl
@[simp] theorem e_dwOk0 {ds : List Nat} {k : Nat} {l : En2} : dwOk ds k (none :: l) = dwOk ds (k + 1) l := id rfl
@[simp] theorem e_dwOkS {ds : List Nat} {k : Nat} {s : Sl} {l : En2} : dwOk ds k (some (.sl s) :: l) = dwOk ds (k + 1) l := id rfl
@[simp] theorem e_dwOkD {ds : List Nat} {k : Nat} {x : List (List PyData)} {l : En2} : dwOk ds k (some (.dw x) :: l) = (ds.contains k && dwOk ds (k + 1) l) := id rfl
@[simp] theorem e_thwN {ts : List Nat} {k : Nat} : thw ts k [] [] = [] := id rfl
@[simp] theorem e_thw0 {ts : List Nat} {k : Nat} {l : En2} {s : Option Sl} {g : En} : thw ts k (none :: l) (s :: g) = (if ts.contains k = true then (match s with | some s' => if flatS s' = true then some (S2.sl s') else none | none => none) else none) :: thw ts (k + 1) l g := id rfl
@[simp] theorem e_thwS {ts : List Nat} {k : Nat} {t : Sl} {l : En2} {s : Option Sl} {g : En} : thw ts k (some (.sl t) :: l) (s :: g) = (if ts.contains k = true then (match s with | some s' => if flatS s' = true then some (S2.sl s') else none | none => none) else some (.sl t)) :: thw ts (k + 1) l g := id rfl
@[simp] theorem e_thwD {ts : List Nat} {k : Nat} {x : List (List PyData)} {l : En2} {s : Option Sl} {g : En} : thw ts k (some (.dw x) :: l) (s :: g) = some (.dw x) :: thw ts (k + 1) l g := id rfl
@[simp] theorem e_oNil2 {Θ : En2} : oNil2 Θ = some (.nx Θ) := id rfl
@[simp] theorem e_oSeq2 {g k : En2 → Option Out2} {Θ : En2} : oSeq2 g k Θ = (match g Θ with | some (.nx Θ') => k Θ' | r => r) := id rfl
@[simp] theorem e_lft {ds : List Nat} {g : En → Option Out} {Θ : En2} : lft ds g Θ = if dwOk ds 0 Θ = true then (match g (prj Θ) with | some (.nx Γ) => if Θ.length = Γ.length then some (.nx (mrg Θ Γ)) else none | some (.rt s) => some (.rt (.sl s)) | _ => none) else none := id rfl
@[simp] theorem e_vwG {ds ts : List Nat} {g : En → Option Out} {Θ : En2} : vwG ds ts g Θ = if dwOk ds 0 Θ = true then (match g (vw Θ) with | some (.nx Γ) => if Θ.length = Γ.length then some (.nx (thw ts 0 Θ Γ)) else none | some (.rt s) => if flatS s = true then some (.rt (.sl s)) else none | _ => none) else none := id rfl
@[simp] theorem e_oRetD {f : En → Option (List (List PyData))} {Θ : En2} : oRetD f Θ = (f (prj Θ)).map fun xss => .rt (.dw xss) := id rfl
@[simp] theorem e_oSetD {i : Nat} {f : En → Option (List (List PyData))} {Θ : En2} : oSetD i f Θ = if i < Θ.length then (f (prj Θ)).map fun xss => .nx (Θ.set i (some (.dw xss))) else none := id rfl
@[simp] theorem e_vSetD {i : Nat} {f : En → Option (List (List PyData))} {Θ : En2} : vSetD i f Θ = if i < Θ.length then (f (vw Θ)).bind fun xss => if (xss.all fun xs => xs.all flatD) = true then some (.nx (Θ.set i (some (.dw xss)))) else none else none := id rfl
@[simp] theorem e_callDD {p g} {Γ : En} : callDD p g Γ = (g Γ).bind p := id rfl
@[simp] theorem e_vLcD {fi u c fe vs} {Γ : En} : vLcD fi u c fe vs Γ = (fi Γ).bind fun ds => if ds.length < cap then lcDD u c fe (wipeE Γ vs) ds else none := id rfl
@[simp] theorem e_flatB {b : Bool} : flatS (.fz (.bool b)) = true := id rfl
@[simp] theorem e_flatI {b : Int} : flatS (.fz (.int b)) = true := id rfl
theorem start2_1 {n : Nat} {a : PyData} : start2 (n + 1) [a] = some (.sl (.fz a)) :: List.replicate n none := by
  unfold start2 startE
  simp
theorem lcDD_map {α : Type} {gt : PyData → En → Option En} {fe : En → Option Sl} {Γ : En} (emb : α → PyData) (F : α → List PyData) : ∀ (xs : List α), (∀ x ∈ xs, (gt (emb x) Γ).bind fe = some (.ow (F x))) → lcDD gt bYes fe Γ (xs.map emb) = some (xs.map F)
  | [], _ => rfl
  | x :: xs, h => by
    have ih := lcDD_map emb F xs fun y hy => h y (List.mem_cons_of_mem _ hy)
    have hx := h x List.mem_cons_self
    rw [List.map_cons, List.map_cons]
    unfold lcDD
    cases q : gt (emb x) Γ with
    | none => rw [q] at hx; cases hx
    | some Γ1 =>
      rw [q, Option.bind_some] at hx
      rw [Option.bind_some, e_bYes, Option.bind_some, if_pos rfl, hx]
      simp only
      rw [ih]; rfl
theorem enum_rows (o : List (List Int)) : enumD (rows o) = (List.range o.length).map fun (i : Nat) => PyData.tuple [.int (i : Int), rowD (o.getD i [])] := by
  apply List.ext_getElem?
  intro i
  by_cases h : i < o.length
  · rw [enumD_get (d := rowD (o.getD i [])) (by simp [h]), List.getElem?_map, List.getElem?_range h]; rfl
  · rw [List.getElem?_eq_none (by rw [enumD_len]; simp; omega), List.getElem?_eq_none (by simp; omega)]
theorem getD_at {α : Type} {l : List α} {k : Nat} {d : α} (h : k < l.length) : l[k]? = some (l.getD k d) := by simp [List.getD, h]
theorem atI_lastN (r : List Int) (x : Int) : atI (nums (r ++ [x])) (-1) = some (.int x) := by
  unfold atI ixN
  rw [if_neg (by omega), List.length_map, if_pos (by simp; omega), Option.bind_some, List.getElem?_map]
  rw [show ((-1 : Int) + ((r ++ [x]).length : Int)).toNat = r.length by simp; omega, List.getElem?_append_right (Nat.le_refl _)]
  simp
abbrev ups (n : Nat) : List Int := (List.range n).map fun (k : Nat) => (k : Int)
theorem ups_len (n : Nat) : (ups n).length = n := by simp
theorem nums_ups (n : Nat) : nums (ups n) = (List.range n).map fun (k : Nat) => PyData.int (k : Int) := by simp [nums, ups]
theorem vListRange_nat {f : En → Option PyData} {Γ : En} {n : Nat} (h : f Γ = some (.int (n : Int))) (hn : n ≤ 65536) : vListRange f Γ = some (.ow (nums (ups n))) := by
  unfold vListRange
  rw [h]
  dsimp only
  rw [big_eq, cap_eq, if_pos (by omega), Int.toNat_natCast, rng_map, nums_ups]
end
end Com
namespace Com
open PySem L2 Bd
noncomputable section
end
end Com
namespace Com
open PySem L2 Bd
noncomputable section
section
variable {g h : En → Option OutX} {h2 : En → Option OutX2} {c : En → Option Bool} {f : En → Option PyData} {a : En → Option (List PyData)} {Γ : En} {m : List PyData → Option (Except Str S2)} {x : Str} {ds : List PyData}
@[simp] theorem e_xOk {o : En → Option Out} : xOk o Γ = (o Γ).map .ok := id rfl
@[simp] theorem e_xNil : xNil Γ = some (.ok (.nx Γ)) := id rfl
@[simp] theorem e_xSeq : xSeq g h Γ = (match g Γ with | some (.ok (.nx Γ')) => h Γ' | r => r) := id rfl
@[simp] theorem e_xIf : xIf c g h Γ = (match c Γ with | some true => g Γ | some false => h Γ | none => none) := id rfl
@[simp] theorem e_xRaise : xRaise x f Γ = (f Γ).map fun _ => .error x := id rfl
@[simp] theorem e_xCall : xCall m a Γ = (match (a Γ).bind m with | some (.ok _) => some (.ok (.nx Γ)) | some (.error C) => some (.error C) | none => none) := id rfl
@[simp] theorem e_xTry {tb : List (Str × PyData)} : xTry m a tb Γ = (match (a Γ).bind m with | some (.ok _) => some (.ok (.nx Γ)) | some (.error c) => (tb.lookup c).map fun d => .ok (.rt (.fz d)) | none => none) := id rfl
@[simp] theorem e_xSeq2 : xSeq2 g h2 Γ = (match g Γ with | some (.ok (.nx Γ')) => h2 Γ' | some (.ok (.rt s)) => some (.ok (.rt (.sl s))) | some (.error C) => some (.error C) | _ => none) := id rfl
@[simp] theorem e_xTl {o : En → Option Out} : xTl o Γ = (match o Γ with | some (.nx Γ') => some (.ok (.nx (upE Γ'))) | some (.rt s) => some (.ok (.rt (.sl s))) | _ => none) := id rfl
@[simp] theorem e_xTl2 {o : En2 → Option Out2} : xTl2 o Γ = (o (upE Γ)).map .ok := id rfl
@[simp] theorem e_upN : upE [] = [] := id rfl
@[simp] theorem e_upC {s : Option Sl} {l : En} : upE (s :: l) = s.map S2.sl :: upE l := id rfl
@[simp] theorem e_oIns {i : Nat} {fi fe : En → Option PyData} : oIns i fi fe Γ = (match Γ[i]?, fi Γ, fe Γ with | some (some (.ow xs)), some (.int k), some d => if 0 ≤ k ∧ k.toNat ≤ xs.length ∧ xs.length < cap then some (.nx (setE i (.ow (insD xs k.toNat d)) Γ)) else none | _, _, _ => none) := id rfl
end
end
end Com
namespace Com
open PySem L2 Bd
noncomputable section
def Ks (kvs : List (Key × V)) (l : List Int) : Prop := (∀ n : Int, (valV kvs (Sum.inl n)).isSome = true ↔ n ∈ l) ∧ kvs.length ≤ l.length
theorem Ks.nil : Ks [] [] := ⟨fun n => by rw [valV_nil]; simp, Nat.le_refl _⟩
end
end Com
namespace Bd
open PySem L2
noncomputable section
structure SubX (a : Addr) (F H F' H' : Hp) : Prop where
  f : Same F F'
  h : ∀ b o, b ≠ a → H b = some o → H' b = some o
  fh : Same F' H'
  o : ∀ b o, H b = some o → F b = none → F' b = none
theorem SubX.trans {a : Addr} {F H F1 H1 F2 H2 : Hp} (u : SubX a F H F1 H1) (v : SubX a F1 H1 F2 H2) (h1 : ∃ o, H1 a = some o) : SubX a F H F2 H2 :=
  ⟨u.f.trans v.f, fun b o n e => v.h b o n (u.h b o n e), v.fh, fun b o e1 e2 => by
    by_cases c : b = a
    · subst c
      obtain ⟨o1, h1⟩ := h1
      exact v.o b o1 h1 (u.o b o e1 e2)
    · exact v.o b o (u.h b o c e1) (u.o b o e1 e2)⟩
theorem Sub.x {a : Addr} {F H F' H' : Hp} (u : Sub F H F' H') : SubX a F H F' H' := ⟨u.f, fun b o _ e => u.h b o e, u.fh, u.o⟩
theorem SubX.dom {a : Addr} {F H F' H' : Hp} (u : SubX a F H F' H') (ha : ∃ o, H' a = some o) {b : Addr} (e : H' b = none) : H b = none := by
  cases q : H b with
  | none => rfl
  | some o =>
    exfalso
    by_cases c : b = a
    · subst c
      obtain ⟨o1, h1⟩ := ha
      rw [e] at h1; cases h1
    · rw [u.h b o c q] at e; cases e
structure Gh (K : PySem.W.Frag) (H0 F H : Hp) (Γ : En) (σ : St) (i : Nat) (a : Addr) (g : List PyData) : Prop where
  si : σ[i]? = some (some (.ref a))
  gi : Γ[i]? = some none
  h0 : H0 a = none
  f0 : F a = none
  hv : ∃ vs, H a = some (.lst vs) ∧ DpAll K F vs g
  ap : ∀ (j : Nat) (xs : List PyData), Γ[j]? = some (some (.ow xs)) → σ[j]? = some (some (.ref a)) → False
section
variable {K : PySem.W.Frag} {F0 H0 F H F' H' : Hp} {Γ : En} {σ : St} {i : Nat} {a : Addr} {g g' : List PyData} {vs' : List V}
theorem Gh.here (G : Gh K H0 F H Γ σ i a g) : ∃ o, H a = some o := by
  obtain ⟨vs, h, _⟩ := G.hv
  exact ⟨_, h⟩
theorem Gh.next (G : Gh K H0 F H Γ σ i a g) (u : SubX a F H F' H') (hv : H' a = some (.lst vs')) (hd : DpAll K F' vs' g') : Gh K H0 F' H' Γ σ i a g' := by
  obtain ⟨o, h⟩ := G.here
  exact ⟨G.si, G.gi, G.h0, u.o a o h G.f0, ⟨vs', hv, hd⟩, G.ap⟩
theorem SlN.back {s : Sl} {v : V} {H1 : Hp} (u : SubX a F H F' H1) (ha : ∃ o, H1 a = some o) {F2 H2 : Hp} (l : SlN K H1 F2 H2 s v) : SlN K H F2 H2 s v := ⟨l.1, fun xs b e1 e2 => u.dom ha (l.2 xs b e1 e2)⟩
end
section
variable {S : Sx} {i : Nat}
def EX (S : Sx) (i : Nat) (e : Expr) (f : En → List PyData → Option (Sl × List PyData)) : Prop :=
  ∃ t : TE, (∀ X, S.Ok X → PE X e t) ∧ ∀ Γ σ H0 F H Q a g s g', EnR S.K H0 F H Γ σ → Gh S.K H0 F H Γ σ i a g → f Γ g = some (s, g') →
    (∀ v F' H' vs', SubX a F H F' H' → H' a = some (.lst vs') → DpAll S.K F' vs' g' → SlN S.K H F' H' s v → Q v H') → t σ H Q
def EXV (S : Sx) (i : Nat) (e : Expr) (f : En → List PyData → Option (PyData × List PyData)) : Prop :=
  ∃ t : TE, (∀ X, S.Ok X → PE X e t) ∧ ∀ Γ σ H0 F H Q a g d g', EnR S.K H0 F H Γ σ → Gh S.K H0 F H Γ σ i a g → f Γ g = some (d, g') →
    (∀ v F' H' vs', SubX a F H F' H' → H' a = some (.lst vs') → DpAll S.K F' vs' g' → Dp S.K F' v d → Q v H') → t σ H Q
def xP (f : En → Option Sl) : En → List PyData → Option (Sl × List PyData) := fun Γ g => (f Γ).map fun s => (s, g)
def xPV (f : En → Option PyData) : En → List PyData → Option (PyData × List PyData) := fun Γ g => (f Γ).map fun s => (s, g)
theorem SE.x {e : Expr} {f} (h : SE S e f) : EX S i e (xP f) := by
  obtain ⟨t, a1, a2⟩ := h
  refine ⟨t, a1, fun Γ σ H0 F H Q a g s g' E G hf k => ?_⟩
  unfold xP at hf
  cases q : f Γ with
  | none => rw [q] at hf; cases hf
  | some s' =>
    rw [q] at hf; cases hf
    obtain ⟨vs, h1, h2⟩ := G.hv
    exact a2 Γ σ H0 F H _ _ E q fun v F' H' u l => k v F' H' vs u.x (u.h _ _ h1) (dpAll_mono u.f h2) l
theorem SV.x {e : Expr} {f} (h : SV S e f) : EXV S i e (xPV f) := by
  obtain ⟨t, a1, a2⟩ := h
  refine ⟨t, a1, fun Γ σ H0 F H Q a g s g' E G hf k => ?_⟩
  unfold xPV at hf
  cases q : f Γ with
  | none => rw [q] at hf; cases hf
  | some s' =>
    rw [q] at hf; cases hf
    obtain ⟨vs, h1, h2⟩ := G.hv
    exact a2 Γ σ H0 F H _ _ E q fun v F' H' u l => k v F' H' vs u.x (u.h _ _ h1) (dpAll_mono u.f h2) l
def xV (f : En → List PyData → Option (Sl × List PyData)) : En → List PyData → Option (PyData × List PyData) := fun Γ g => (f Γ g).map fun p => (p.1.d, p.2)
theorem EX.v {e : Expr} {f} (h : EX S i e f) : EXV S i e (xV f) := by
  obtain ⟨t, a1, a2⟩ := h
  refine ⟨t, a1, fun Γ σ H0 F H Q a g d g' E G hf k => ?_⟩
  unfold xV at hf
  cases q : f Γ g with
  | none => rw [q] at hf; cases hf
  | some p =>
    obtain ⟨s, g1⟩ := p
    rw [q] at hf; cases hf
    refine a2 Γ σ H0 F H _ a g s _ E G q fun v F' H' vs' u hv hd l => ?_
    cases s with
    | fz d => exact k v F' H' vs' u hv hd l.1
    | ow xs =>
      obtain ⟨⟨b, vs, rfl, r1, r2, r3⟩, r4⟩ := l
      have hb := r4 xs b rfl rfl
      refine k _ (upd F' b (.lst vs)) H' vs' ⟨u.f.trans (same_new r1), u.h, fun c o e => ?_, fun c o e1 e2 => ?_⟩ hv (dpAll_mono (same_new r1) hd) (.lst (SqL.of upd_same) (dpAll_mono (same_new r1) r3))
      · by_cases hc : c = b
        · subst hc; rw [upd_same] at e; cases e; exact r2
        · rw [upd_ne hc] at e; exact u.fh c o e
      · rw [upd_ne (ne_of_none e1 hb)]; exact u.o c o e1 e2
def xFz (f : En → List PyData → Option (PyData × List PyData)) : En → List PyData → Option (Sl × List PyData) := fun Γ g => (f Γ g).map fun p => (.fz p.1, p.2)
theorem EXV.e {e : Expr} {f} (h : EXV S i e f) : EX S i e (xFz f) := by
  obtain ⟨t, a1, a2⟩ := h
  refine ⟨t, a1, fun Γ σ H0 F H Q a g s g' E G hf k => ?_⟩
  unfold xFz at hf
  cases q : f Γ g with
  | none => rw [q] at hf; cases hf
  | some p =>
    obtain ⟨d, g1⟩ := p
    rw [q] at hf; cases hf
    exact a2 Γ σ H0 F H _ a g d _ E G q fun v F' H' vs' u hv hd l => k v F' H' vs' u hv hd ⟨l, fun _ _ z => by cases z⟩
def x2 (p : PyData → PyData → Option Sl) (f h : En → List PyData → Option (PyData × List PyData)) : En → List PyData → Option (Sl × List PyData) := fun Γ g =>
  (f Γ g).bind fun x => (h Γ x.2).bind fun y => (p x.1 y.1).map fun s => (s, y.2)
def TX (S : Sx) (i : Nat) (e : Expr) (f : En → List PyData → Option (Bool × List PyData)) : Prop :=
  ∃ t : TT, (∀ X, S.Ok X → PT X e t) ∧ ∀ Γ σ H0 F H Q a g b g', EnR S.K H0 F H Γ σ → Gh S.K H0 F H Γ σ i a g → f Γ g = some (b, g') →
    (∀ F' H' vs', SubX a F H F' H' → H' a = some (.lst vs') → DpAll S.K F' vs' g' → Q b H') → t σ H Q
def xB (f : En → List PyData → Option (Sl × List PyData)) : En → List PyData → Option (Bool × List PyData) := fun Γ g => match f Γ g with
  | some (.fz (.bool b), g') => some (b, g')
  | _ => none
def xPB (f : En → Option Bool) : En → List PyData → Option (Bool × List PyData) := fun Γ g => (f Γ).map fun s => (s, g)
theorem ST.x {e : Expr} {f} (h : ST S e f) : TX S i e (xPB f) := by
  obtain ⟨t, a1, a2⟩ := h
  refine ⟨t, a1, fun Γ σ H0 F H Q a g s g' E G hf k => ?_⟩
  unfold xPB at hf
  cases q : f Γ with
  | none => rw [q] at hf; cases hf
  | some s' =>
    rw [q] at hf; cases hf
    obtain ⟨vs, h1, h2⟩ := G.hv
    exact a2 Γ σ H0 F H _ _ E q fun F' H' u => k F' H' vs u.x (u.h _ _ h1) (dpAll_mono u.f h2)
def xGix (k : En → Option PyData) : En → List PyData → Option (PyData × List PyData) := fun Γ g => match k Γ with
  | some (.int j) => (atI g j).map fun d => (d, g)
  | _ => none
end
end
end Bd
namespace Bd
open PySem L2
noncomputable section
inductive OutM where
  | nx (Γ : En) (g : List PyData) | rt (s : Sl) (g : List PyData) | bk (Γ : En) (g : List PyData) | ct (Γ : En) (g : List PyData)
abbrev GM := En → List PyData → Option OutM
section
variable {S : Sx} {i : Nat}
def mNil : GM := fun Γ l => some (.nx Γ l)
def mSeq (g h : GM) : GM := fun Γ l => match g Γ l with
  | some (.nx Γ' l') => h Γ' l'
  | r => r
def mLft (g : En → Option Out) : GM := fun Γ l => match g Γ with
  | some (.nx Γ') => some (.nx Γ' l)
  | some (.rt s) => some (.rt s l)
  | some (.bk Γ') => some (.bk Γ' l)
  | some (.ct Γ') => some (.ct Γ' l)
  | none => none
def mIf (c : En → List PyData → Option (Bool × List PyData)) (g h : GM) : GM := fun Γ l => match c Γ l with
  | some (true, l') => g Γ l'
  | some (false, l') => h Γ l'
  | none => none
def mRet (f : En → List PyData → Option (Sl × List PyData)) : GM := fun Γ l => (f Γ l).map fun p => .rt p.1 p.2
theorem Gh.set {K : PySem.W.Frag} {H0 F H : Hp} {Γ : En} {σ : St} {a : Addr} {l : List PyData} {s : Sl} {v : V} {j : Nat} (G : Gh K H0 F H Γ σ i a l) (hj : j ≠ i) (hn : ∀ xs b, s = .ow xs → v = .ref b → b ≠ a) : Gh K H0 F H (setE j s Γ) (σ.set j (some v)) i a l := by
  refine ⟨by rw [List.getElem?_set_ne hj]; exact G.si, by unfold setE; rw [List.getElem?_set_ne hj]; exact G.gi, G.h0, G.f0, G.hv, fun k xs h1 h2 => ?_⟩
  unfold setE at h1
  rw [List.getElem?_set] at h1 h2
  split at h1
  · next e =>
    rw [if_pos e] at h2
    split at h1
    · cases h1
      split at h2
      · cases h2; exact hn xs a rfl rfl rfl
      · cases h2
    · cases h1
  · next e => rw [if_neg e] at h2; exact G.ap k xs h1 h2
def mSet (j : Nat) (f : En → List PyData → Option (Sl × List PyData)) : GM := fun Γ l => (f Γ l).map fun p => .nx (setE j p.1 Γ) p.2
theorem Gh.wrt {K : PySem.W.Frag} {F0 H0 F H : Hp} {Γ : En} {σ : St} {a : Addr} {l l' : List PyData} {us : List V} (R : StR K F0 H0 F H Γ σ) (G : Gh K H0 F H Γ σ i a l) (hd : DpAll K F us l') : SubX a F H F (upd H a (.lst us)) := by
  refine ⟨.refl _, fun b o n e => by rw [upd_ne n]; exact e, fun b o e => ?_, fun b o _ e => e⟩
  rw [upd_ne (fun z => by subst z; rw [G.f0] at e; cases e)]
  exact R.en.fh b o e
def mGset (fi : En → Option PyData) (f : En → List PyData → Option (PyData × List PyData)) : GM := fun Γ l => (f Γ l).bind fun p => match fi Γ with
  | some (.int k) => (ixN p.2.length k).map fun j => .nx Γ (p.2.set j p.1)
  | _ => none
end
end
end Bd
namespace Bd
open PySem L2
noncomputable section
section
variable {S : Sx} {i : Nat}
def ArG (K : PySem.W.Frag) (F : Hp) (a : Addr) : Option PyData → V → Prop
  | some d, v => Dp K F v d
  | none, v => v = .ref a
inductive AG (K : PySem.W.Frag) (F : Hp) (a : Addr) : List (Option PyData) → List V → Prop where
  | nil : AG K F a [] []
  | cons {o : Option PyData} {v : V} {os : List (Option PyData)} {vs : List V} (h : ArG K F a o v) (t : AG K F a os vs) : AG K F a (o :: os) (v :: vs)
theorem AG.mono {K : PySem.W.Frag} {F F' : Hp} {a : Addr} (s : Same F F') : ∀ {os : List (Option PyData)} {vs : List V}, AG K F a os vs → AG K F' a os vs
  | _, _, .nil => .nil
  | _, _, .cons (o := some d) h t => .cons (dp_mono s h) (AG.mono s t)
  | _, _, .cons (o := none) h t => .cons h (AG.mono s t)
theorem AG.length {K : PySem.W.Frag} {F : Hp} {a : Addr} : ∀ {os : List (Option PyData)} {vs : List V}, AG K F a os vs → os.length = vs.length
  | _, _, .nil => rfl
  | _, _, .cons _ t => by rw [List.length_cons, List.length_cons, AG.length t]
theorem AG.get {K : PySem.W.Frag} {F : Hp} {a : Addr} : ∀ {os : List (Option PyData)} {vs : List V} {k : Nat} {o : Option PyData}, AG K F a os vs → os[k]? = some o → ∃ v, vs[k]? = some v ∧ ArG K F a o v
  | _, _, _, _, .nil, e => by simp at e
  | _, _, 0, _, .cons h _, e => by simp at e; subst e; exact ⟨_, rfl, h⟩
  | _, _, k + 1, o, .cons _ t, e => by
    obtain ⟨v, h1, h2⟩ := AG.get (k := k) (o := o) t (by simpa using e)
    exact ⟨v, by simpa using h1, h2⟩
def gaNil : En → List PyData → Option (List (Option PyData) × List PyData) := fun _ g => some ([], g)
def gaV (f : En → List PyData → Option (PyData × List PyData)) (r : En → List PyData → Option (List (Option PyData) × List PyData)) : En → List PyData → Option (List (Option PyData) × List PyData) := fun Γ g =>
  (f Γ g).bind fun x => (r Γ x.2).map fun y => (some x.1 :: y.1, y.2)
def gaG (r : En → List PyData → Option (List (Option PyData) × List PyData)) : En → List PyData → Option (List (Option PyData) × List PyData) := fun Γ g => (r Γ g).map fun y => (none :: y.1, y.2)
def spG (K : PySem.W.Frag) (n : Nat) (m : List (Option PyData) → List PyData → Option (Sl × List PyData)) : L2.Sp := fun vs H Q _ =>
  ∃ F a os g s g', Same F H ∧ os.length = n ∧ AG K F a os vs ∧ F a = none ∧ (∃ ws, H a = some (.lst ws) ∧ DpAll K F ws g) ∧ m os g = some (s, g') ∧
    ∀ v F' H' ws, SubX a F H F' H' → H' a = some (.lst ws) → DpAll K F' ws g' → SlN K H F' H' s v → Q v H'
structure FnG (S : Sx) (x : Str) (ps : List Str) (m : List (Option PyData) → List PyData → Option (Sl × List PyData)) : Prop where
  ex : ∃ (f : Addr) (fd : FuncData) (j : Nat), FnOk S.P S.w S.K S.mg S.base CX0 j f fd ps (spG S.K ps.length m) ∧ j ≤ S.k ∧ S.mg x = some (.ref f) ∧ PySem.W.keepIn S.K (.ref f) = true ∧ Binds S.K fd ps []
def xCallG (n : Nat) (m : List (Option PyData) → List PyData → Option (Sl × List PyData)) (r : En → List PyData → Option (List (Option PyData) × List PyData)) : En → List PyData → Option (Sl × List PyData) := fun Γ g =>
  (r Γ g).bind fun y => if y.1.length = n then m y.1 y.2 else none
end
def startG (n : Nat) (os : List (Option PyData)) : En := (os.map (Option.map Sl.fz)) ++ List.replicate (n - os.length) none
def mirrorG (n i : Nat) (g : GM) : List (Option PyData) → List PyData → Option (Sl × List PyData) := fun os l => match os[i]? with
  | some none => match g (startG n os) l with
    | some (.rt s l') => some (s, l')
    | some (.nx _ l') => some (.fz .none, l')
    | _ => none
  | _ => none
end
end Bd
namespace Bd
open PySem L2
noncomputable section
section
variable {S : Sx} {i : Nat}
def IX (S : Sx) (i : Nat) (tg iter : Expr) (f : En → List PyData → Option (List PyData × List PyData)) : Prop :=
  ∃ wi : TI, (∀ X, S.Ok X → PI X tg iter wi) ∧ ∀ Γ σ H0 F H R a g ds g', EnR S.K H0 F H Γ σ → Gh S.K H0 F H Γ σ i a g → f Γ g = some (ds, g') →
    (∀ J F' H' vs', SubX a F H F' H' → H' a = some (.lst vs') → DpAll S.K F' vs' g' → ItR S.K F' F' J ds → R J H') → wi σ H R
def xPI (f : En → Option (List PyData)) : En → List PyData → Option (List PyData × List PyData) := fun Γ g => (f Γ).map fun s => (s, g)
theorem SIV.x {tg iter : Expr} {f} (h : SIV S tg iter f) : IX S i tg iter (xPI f) := by
  obtain ⟨t, a1, a2⟩ := h
  refine ⟨t, a1, fun Γ σ H0 F H R a g ds g' E G hf k => ?_⟩
  unfold xPI at hf
  cases q : f Γ with
  | none => rw [q] at hf; cases hf
  | some s' =>
    rw [q] at hf; cases hf
    obtain ⟨vs, h1, h2⟩ := G.hv
    exact a2 Γ σ H0 F H _ _ E q fun J F' H' u it => k J F' H' vs u.x (u.h _ _ h1) (dpAll_mono u.f h2) it
def forM (g : PyData → En → Option En) (b : GM) : List PyData → GM
  | [], Γ, l => some (.nx Γ l)
  | d :: ds, Γ, l => (g d Γ).bind fun Γ1 => match b Γ1 l with
    | some (.nx Γ2 l2) => forM g b ds Γ2 l2
    | some (.ct Γ2 l2) => forM g b ds Γ2 l2
    | some (.bk Γ2 l2) => some (.nx Γ2 l2)
    | some (.rt s l2) => some (.rt s l2)
    | none => none
def mFor (fi : En → List PyData → Option (List PyData × List PyData)) (g : PyData → En → Option En) (b : GM) : GM := fun Γ l => (fi Γ l).bind fun p => forM g b p.1 Γ p.2
theorem Gh.wr {K : PySem.W.Frag} {H0 F H : Hp} {Γ : En} {σ : St} {a b : Addr} {l : List PyData} {j : Nat} {xs ys : List PyData} {o : HO} (G : Gh K H0 F H Γ σ i a l) (hj : Γ[j]? = some (some (.ow xs))) (hb : σ[j]? = some (some (.ref b))) : Gh K H0 F (upd H b o) (setE j (.ow ys) Γ) σ i a l := by
  have nb : a ≠ b := fun z => by subst z; exact G.ap j xs hj hb
  have ji : j ≠ i := fun z => by subst z; rw [G.gi] at hj; cases hj
  refine ⟨G.si, by unfold setE; rw [List.getElem?_set_ne ji]; exact G.gi, G.h0, G.f0, ?_, fun k zs h1 h2 => ?_⟩
  · obtain ⟨vs, h1, h2⟩ := G.hv
    exact ⟨vs, by rw [upd_ne nb]; exact h1, h2⟩
  · unfold setE at h1
    rw [List.getElem?_set] at h1
    split at h1
    · next e => subst e; exact G.ap j xs hj h2
    · exact G.ap k zs h1 h2
def mApp (j : Nat) (f : En → List PyData → Option (PyData × List PyData)) : GM := fun Γ l => match Γ[j]?, f Γ l with
  | some (some (.ow xs)), some (d, l') => if xs.length < cap then some (.nx (setE j (.ow (xs ++ [d])) Γ) l') else none
  | _, _ => none
def gGh (i : Nat) (f : En → Option Sl) (g : GM) : En → Option Out := fun Γ => match f Γ with
  | some (.ow xs) => if i < Γ.length then (match g (Γ.set i none) xs with
    | some (.rt s _) => some (.rt s)
    | _ => none) else none
  | _ => none
def x2N (j : Nat) (p : PyData → PyData → Option Sl) (h : En → List PyData → Option (PyData × List PyData)) : En → List PyData → Option (Sl × List PyData) := fun Γ g =>
  (gSl j Γ).bind fun d => (h Γ g).bind fun y => (p d y.1).map fun s => (s, y.2)
end
end
end Bd
namespace Bd
open PySem L2
noncomputable section
section
variable {X : Cx}
end
section
variable {S : Sx} {i : Nat}
def mGaug (k : Nat) (f : En → List PyData → Option (PyData × List PyData)) : GM := fun Γ l => match l[k]? with
  | some (.int x) => (match f Γ l with
    | some (.int y, l') => (ixN l'.length (k : Int)).map fun j => .nx Γ (l'.set j (.int (x + y)))
    | _ => none)
  | _ => none
def mIns (j : Nat) (fi f : En → List PyData → Option (PyData × List PyData)) : GM := fun Γ l => match Γ[j]?, fi Γ l with
  | some (some (.ow xs)), some (.int k, l1) => (match f Γ l1 with
    | some (d, l2) => if 0 ≤ k ∧ k.toNat ≤ xs.length ∧ xs.length < cap then some (.nx (setE j (.ow (insD xs k.toNat d)) Γ) l2) else none
    | none => none)
  | _, _ => none
def mSetIx (j : Nat) (fi : En → Option PyData) (f : En → List PyData → Option (PyData × List PyData)) : GM := fun Γ l => match Γ[j]?, f Γ l, fi Γ with
  | some (some (.ow xs)), some (d, l'), some (.int k) => (ixN xs.length k).map fun n => .nx (setE j (.ow (xs.set n d)) Γ) l'
  | _, _, _ => none
end
end
end Bd
namespace Bd
open PySem L2
noncomputable section
section
variable {S : Sx}
def shrB (_ j : Int) : Bool := decide (0 ≤ j)
abbrev pShl : PyData → PyData → Option Sl := pI (fun i j => .int (i * 2 ^ j.toNat)) powB
abbrev pShr : PyData → PyData → Option Sl := pI (fun i j => .int (i / 2 ^ j.toNat)) shrB
abbrev pBand : PyData → PyData → Option Sl := pI (fun i j => .int (Builtin.bitAnd i j)) fun _ _ => true
def oAug (i : Nat) (h : Int → Int → Int) (f : En → Option PyData) : En → Option Out := fun Γ => match gSl i Γ, f Γ with
  | some (.int x), some (.int y) => some (.nx (setE i (.fz (.int (h x y))) Γ))
  | _, _ => none
def oAugIx (i : Nat) (h : Int → Int → Int) (fi f : En → Option PyData) : En → Option Out := fun Γ => match Γ[i]?, fi Γ, f Γ with
  | some (some (.ow xs)), some (.int k), some (.int y) => if 0 ≤ k then (match xs[k.toNat]? with
    | some (.int x) => some (.nx (setE i (.ow (xs.set k.toNat (.int (h x y)))) Γ))
    | _ => none) else none
  | _, _, _ => none
def oRevS (i : Nat) : En → Option Out := fun Γ => match Γ[i]? with
  | some (some (.ow xs)) => some (.nx (setE i (.ow xs.reverse) Γ))
  | _ => none
def oUnp (f : En → Option PyData) (g : PyData → En → Option En) : En → Option Out := fun Γ => (f Γ).bind fun d => (g d Γ).map Out.nx
def oPar (i j : Nat) (a : En → Option (List PyData)) : En → Option Out := fun Γ => match a Γ with
  | some [d, e] => some (.nx (setE j (.fz e) (setE i (.fz d) Γ)))
  | _ => none
def zipD (xs ys : List PyData) : List PyData := xs.zipWith (fun a b => PyData.tuple [a, b]) ys
def iZp (f g : En → Option PyData) : En → Option (List PyData) := fun Γ => match f Γ, g Γ with
  | some (.list xs), some (.list ys) => some (zipD xs ys)
  | _, _ => none
end
end
end Bd
namespace Bd
open PySem L2
noncomputable section
section
variable {S : Sx} {i : Nat}
def allS : List (Option PyData) → Option (List PyData)
  | [] => some []
  | some d :: os => (allS os).map (d :: ·)
  | none :: _ => none
def xLst (f : En → List PyData → Option (List (Option PyData) × List PyData)) : En → List PyData → Option (Sl × List PyData) := fun Γ g => (f Γ g).bind fun y => (allS y.1).bind fun ds => if ds.length ≤ cap then some (.ow ds, y.2) else none
end
end
end Bd
namespace Bd
open PySem L2
noncomputable section
section
variable {S : Sx}
def divW (_ j : Int) : Bool := decide (0 < j) && decide (j < (big (2 ^ 250) : Int))
abbrev pDivW : PyData → PyData → Option Sl := pI (fun i j => .int (i / j)) divW
def pInt1 : List PyData → Option Sl
  | [.int i] => some (.fz (.int i))
  | [.bool b] => some (.fz (.int (if b then 1 else 0)))
  | _ => none
end
end
end Bd
namespace Com
open PySem L2 Bd
noncomputable section
section
variable {f h : En → List PyData → Option (PyData × List PyData)} {fs : En → List PyData → Option (Sl × List PyData)} {c : En → List PyData → Option (Bool × List PyData)} {g k : GM} {Γ : En} {l : List PyData} {u : En → Option PyData}
@[simp] theorem e_xPV : xPV u Γ l = (u Γ).map fun s => (s, l) := id rfl
@[simp] theorem e_xP {v : En → Option Sl} : xP v Γ l = (v Γ).map fun s => (s, l) := id rfl
@[simp] theorem e_xPB {v : En → Option Bool} : xPB v Γ l = (v Γ).map fun s => (s, l) := id rfl
@[simp] theorem e_xPI {v : En → Option (List PyData)} : xPI v Γ l = (v Γ).map fun s => (s, l) := id rfl
@[simp] theorem e_xV : xV fs Γ l = (fs Γ l).map fun p => (p.1.d, p.2) := id rfl
@[simp] theorem e_xFz : xFz f Γ l = (f Γ l).map fun p => (.fz p.1, p.2) := id rfl
@[simp] theorem e_x2 {p : PyData → PyData → Option Sl} : x2 p f h Γ l = (f Γ l).bind fun x => (h Γ x.2).bind fun y => (p x.1 y.1).map fun s => (s, y.2) := id rfl
@[simp] theorem e_x2N {j : Nat} {p : PyData → PyData → Option Sl} : x2N j p h Γ l = (gSl j Γ).bind fun d => (h Γ l).bind fun y => (p d y.1).map fun s => (s, y.2) := id rfl
@[simp] theorem e_xB : xB fs Γ l = (match fs Γ l with | some (.fz (.bool b), g') => some (b, g') | _ => none) := id rfl
@[simp] theorem e_xGix : xGix u Γ l = (match u Γ with | some (.int j) => (atI l j).map fun d => (d, l) | _ => none) := id rfl
@[simp] theorem e_mNil : mNil Γ l = some (.nx Γ l) := id rfl
@[simp] theorem e_mSeq : mSeq g k Γ l = (match g Γ l with | some (.nx Γ' l') => k Γ' l' | r => r) := id rfl
@[simp] theorem e_mIf : mIf c g k Γ l = (match c Γ l with | some (true, l') => g Γ l' | some (false, l') => k Γ l' | none => none) := id rfl
@[simp] theorem e_mRet : mRet fs Γ l = (fs Γ l).map fun p => .rt p.1 p.2 := id rfl
@[simp] theorem e_mSet {j : Nat} : mSet j fs Γ l = (fs Γ l).map fun p => .nx (setE j p.1 Γ) p.2 := id rfl
@[simp] theorem e_mGset : mGset u f Γ l = (f Γ l).bind fun p => (match u Γ with | some (.int k) => (ixN p.2.length k).map fun j => .nx Γ (p.2.set j p.1) | _ => none) := id rfl
@[simp] theorem e_mGaug {j : Nat} : mGaug j f Γ l = (match l[j]? with | some (.int x) => (match f Γ l with | some (.int y, l') => (ixN l'.length (j : Int)).map fun n => .nx Γ (l'.set n (.int (x + y))) | _ => none) | _ => none) := id rfl
@[simp] theorem e_mLft {o : En → Option Out} : mLft o Γ l = (match o Γ with | some (.nx Γ') => some (.nx Γ' l) | some (.rt s) => some (.rt s l) | some (.bk Γ') => some (.bk Γ' l) | some (.ct Γ') => some (.ct Γ' l) | none => none) := id rfl
@[simp] theorem e_mFor {fi : En → List PyData → Option (List PyData × List PyData)} {t : PyData → En → Option En} : mFor fi t g Γ l = (fi Γ l).bind fun p => forM t g p.1 Γ p.2 := id rfl
@[simp] theorem e_mApp {j : Nat} : mApp j f Γ l = (match Γ[j]?, f Γ l with | some (some (.ow xs)), some (d, l') => if xs.length < cap then some (.nx (setE j (.ow (xs ++ [d])) Γ) l') else none | _, _ => none) := id rfl
@[simp] theorem e_gaNil : gaNil Γ l = some ([], l) := id rfl
@[simp] theorem e_gaV {r : En → List PyData → Option (List (Option PyData) × List PyData)} : gaV f r Γ l = (f Γ l).bind fun x => (r Γ x.2).map fun y => (some x.1 :: y.1, y.2) := id rfl
@[simp] theorem e_gaG {r : En → List PyData → Option (List (Option PyData) × List PyData)} : gaG r Γ l = (r Γ l).map fun y => (none :: y.1, y.2) := id rfl
@[simp] theorem e_xCallG {n : Nat} {m : List (Option PyData) → List PyData → Option (Sl × List PyData)} {r : En → List PyData → Option (List (Option PyData) × List PyData)} : xCallG n m r Γ l = (r Γ l).bind fun y => if y.1.length = n then m y.1 y.2 else none := id rfl
end
def g_law_stock : En → Option Out :=
  (oSeq (oSet 2 (fzOf (dOf (callD m_law_cell (aCons (gFz 0) (aCons (gFz 1) aNil))))))
  (oSeq (oIf (bOf (b2 pGe (dOf (callD pAbs (aCons (gSl 2) aNil))) (dOf (b2 pPow (kC (.int 10)) (kC (.int 18))))))
  (oSeq (oRet (dLst (aCons (dOf (callD pAbs (aCons (gSl 2) aNil))) (aCons (kC (.int 0)) aNil))))
  oNil)
  oNil)
  (oSeq (oRet (dLst (aCons (dOf (b2 pAdd (dOf (b2 pMul (dOf (b2 pMod (gSl 2) (dOf (b2 pPow (kC (.int 10)) (kC (.int 18)))))) (kC (.int 61)))) (dOf (b2 pMod (gSl 1) (kC (.int 61)))))) (aCons (kC (.int 1)) aNil))))
  oNil)))
def m_law_stock : List PyData → Option Sl := mirror 3 g_law_stock
def gG_law_take : GM :=
  (mSeq (mIf (xB (x2 pEq (xGix (kC (.int 1))) (xPV (kC (.int 0)))))
  (mSeq (mSet 2 (xFz (xV (x2 pMod (xGix (kC (.int 0))) (xPV (gFz 1))))))
  (mSeq (mGset (kC (.int 0)) (xV (x2 pDivW (xGix (kC (.int 0))) (xPV (gFz 1)))))
  (mSeq (mLft (oRetV 2))
  mNil)))
  mNil)
  (mSeq (mSet 3 (xFz (xV (x2 pAdd (xV (x2 pMul (xV (x2 pAdd (xGix (kC (.int 0))) (xPV (kC (.int 1))))) (xPV (kC (.int 2654435761))))) (xV (x2 pMul (xGix (kC (.int 1))) (xPV (kC (.int 2654503651)))))))))
  (mSeq (mSet 3 (xFz (xV (x2 pMod (xV (x2 pMul (xPV (dOf (b2 pMod (gSl 3) (kC (.int 4294967291))))) (xV (x2 pAdd (xV (x2 pAdd (xPV (dOf (b2 pMod (dOf (b2 pDivW (gSl 3) (kC (.int 4294967291)))) (kC (.int 65521))))) (xV (x2 pMul (xPV (kC (.int 2))) (xGix (kC (.int 1))))))) (xPV (kC (.int 3))))))) (xPV (kC (.int 4294967279)))))))
  (mSeq (mGaug 1 (xPV (kC (.int 1))))
  (mSeq (mRet (x2 pMod (xV (x2 pDivW (xV (x2 pMod (xV (x2 pMul (xPV (gFz 3)) (xV (x2 pAdd (xPV (dOf (b2 pDivW (gSl 3) (kC (.int 1024))))) (xGix (kC (.int 1))))))) (xPV (kC (.int 4294967231))))) (xPV (kC (.int 8))))) (xPV (gFz 1))))
  mNil)))))
def mG_law_take : List (Option PyData) → List PyData → Option (Sl × List PyData) := mirrorG 4 0 gG_law_take
theorem atI_0 (x : PyData) (xs : List PyData) : atI (x :: xs) 0 = some x := atI_of (by decide) rfl
theorem atI_1 (x y : PyData) (xs : List PyData) : atI (x :: y :: xs) 1 = some y := atI_of (by decide) rfl
theorem big250 {n : Int} (h : n < 18446744073709551616) : n < (big (2 ^ 250) : Int) := by
  rw [big_eq]
  have h1 : (18446744073709551616 : Nat) ≤ 2 ^ 250 := Nat.le_trans (m := 2 ^ 64) (by decide) (Nat.pow_le_pow_right (n := 2) (i := 64) (j := 250) (by decide) (by decide))
  exact Int.lt_of_lt_of_le h (Int.ofNat_le.mpr h1)
theorem divW_ok {i j : Int} (h0 : 0 < j) (h1 : j < (big (2 ^ 250) : Int)) : divW i j = true := by
  unfold divW
  rw [decide_eq_true h0, decide_eq_true h1]; rfl
theorem big64 : (big (2 ^ 64) : Int) = 18446744073709551616 := by rw [big_eq]; decide
theorem mulB_l {i j : Int} (h0 : 0 ≤ i) (h1 : i < 18446744073709551616) : mulB i j = true := by
  unfold mulB
  rw [big64, decide_eq_true (show -18446744073709551616 < i by omega), decide_eq_true h1]; rfl
theorem mulB_r {i j : Int} (h0 : 0 ≤ j) (h1 : j < 18446744073709551616) : mulB i j = true := by
  unfold mulB
  rw [big64, decide_eq_true (show -18446744073709551616 < j by omega), decide_eq_true h1, Bool.or_comm]; rfl
def tkA (a b : Int) : Int := (a + 1) * 2654435761 + b * 2654503651
def tkB (a b : Int) : Int := tkA a b % 4294967291 * (tkA a b / 4294967291 % 65521 + 2 * b + 3) % 4294967279
theorem take_spec (a b many : Int) (h0 : 0 < many) (h1 : many < (big (2 ^ 250) : Int)) : ∃ d a' b', mG_law_take [none, some (.int many)] [.int a, .int b] = some (.fz (.int d), [.int a', .int b']) ∧ 0 ≤ d ∧ d < many := by
  have mm : ∀ i, modB i many = true := fun i => by unfold modB; simp [h0]
  have dm : ∀ i, divW i many = true := fun i => divW_ok h0 h1
  have md : ∀ i j : Int, 0 < j → modB i j = true := fun i j h => by unfold modB; simp [h]
  have x0 : ixN 2 0 = some 0 := by unfold ixN; rfl
  have x1 : ixN 2 1 = some 1 := by unfold ixN; rfl
  by_cases hb : b = 0
  · subst hb
    refine ⟨a % many, a / many, 0, ?_, Int.emod_nonneg a (by omega), Int.emod_lt_of_pos a h0⟩
    unfold mG_law_take mirrorG gG_law_take startG
    simp [atI_0, atI_1, mm, dm, x0, List.replicate]
  · have hb' : (b == 0) = false := beq_eq_false_iff_ne.mpr hb
    have k1 : ∀ i, mulB i 2654435761 = true := fun i => mulB_r (by decide) (by decide)
    have k2 : ∀ i, mulB i 2654503651 = true := fun i => mulB_r (by decide) (by decide)
    have k3 : ∀ i, mulB 2 i = true := fun i => mulB_l (by decide) (by decide)
    have m1 : ∀ i, modB i 4294967291 = true := fun i => md _ _ (by decide)
    have m2 : ∀ i, modB i 65521 = true := fun i => md _ _ (by decide)
    have m3 : ∀ i, modB i 4294967279 = true := fun i => md _ _ (by decide)
    have m4 : ∀ i, modB i 4294967231 = true := fun i => md _ _ (by decide)
    have d1 : ∀ i, divW i 4294967291 = true := fun i => divW_ok (by decide) (big250 (by decide))
    have d2 : ∀ i, divW i 1024 = true := fun i => divW_ok (by decide) (big250 (by decide))
    have d3 : ∀ i, divW i 8 = true := fun i => divW_ok (by decide) (big250 (by decide))
    have k4 : ∀ i j, mulB (i % 4294967291) j = true := fun i j => mulB_l (Int.emod_nonneg _ (by decide)) (Int.lt_trans (Int.emod_lt_of_pos _ (by decide)) (by decide))
    have k5 : ∀ i j, mulB (i % 4294967279) j = true := fun i j => mulB_l (Int.emod_nonneg _ (by decide)) (Int.lt_trans (Int.emod_lt_of_pos _ (by decide)) (by decide))
    refine ⟨tkB a b * (tkB a b / 1024 + (b + 1)) % 4294967231 / 8 % many, a, b + 1, ?_, Int.emod_nonneg _ (by omega), Int.emod_lt_of_pos _ h0⟩
    unfold mG_law_take mirrorG gG_law_take startG tkB tkA
    simp only [List.map_cons, List.map_nil, Option.map_none, Option.map_some, List.length_cons, List.length_nil, List.replicate, List.cons_append, List.nil_append, List.getElem?_cons_zero, List.getElem?_cons_succ, Nat.reduceSub, Nat.zero_add, Nat.reduceAdd, e_mSeq, e_mIf, e_xB, e_x2, e_xGix, e_kC, atI_0, atI_1, e_xPV, Option.bind_some, e_pEqI, hb', e_mNil, e_mSet, e_xFz, e_xV, e_pAddI, e_fz, e_pI, k1, k2, k3, k4, k5, m1, m2, m3, m4, d1, d2, d3, mm, if_true, e_setES, e_setE0, e_dOf, e_b2, e_gSlS, e_gSl0, e_mGaug, Int.ofNat_one, x1, List.set_cons_succ, List.set_cons_zero, e_mRet, e_gFzS, e_gFz0]
theorem stock_spec (s : List Int) (k : Nat) : ∃ a b, m_law_stock [.list (nums s), .int (k : Int)] = some (.ow [.int a, .int b]) := by
  obtain ⟨c, hc⟩ := cell_spec s k
  have pw : powB 10 18 = true := by unfold powB; rw [big_eq, big_eq]; decide
  have m1 : ∀ i, modB i ((10 : Int) ^ (18 : Int).toNat) = true := fun i => by unfold modB; decide
  have m2 : modB (k : Int) 61 = true := by unfold modB; decide
  have u1 : ∀ i, mulB i 61 = true := fun i => mulB_r (by decide) (by decide)
  have c2 : (2 : Nat) ≤ cap := by rw [cap_eq]; decide
  unfold m_law_stock mirror g_law_stock startE
  generalize m_law_cell = mc at hc ⊢
  simp only [List.map_cons, List.map_nil, List.length_cons, List.length_nil, List.replicate, List.cons_append, List.nil_append, Nat.reduceSub, Nat.zero_add, Nat.reduceAdd, e_oSeq, e_oSet, e_fzOf, e_dOf, e_callD, e_aCons, e_gFzS, e_gFz0, e_aNil, Option.bind_some, Option.map_some, hc, e_fz, e_setES, e_setE0, e_oIf, e_bOf, e_b2, e_gSlS, e_gSl0, e_pAbs, e_kC, e_pI, pw, if_true]
  cases h : decide (((10 : Int) ^ (18 : Int).toNat) ≤ if c < 0 then -c else c) with
  | true =>
    refine ⟨if c < 0 then -c else c, 0, ?_⟩
    simp only [e_oRet, e_dLst, e_aCons, e_dOf, e_callD, e_gSlS, e_gSl0, e_fz, e_aNil, Option.bind_some, Option.map_some, e_pAbs, e_kC, List.length_cons, List.length_nil, Nat.zero_add, Nat.reduceAdd, c2, if_true]
  | false =>
    refine ⟨c % ((10 : Int) ^ (18 : Int).toNat) * 61 + (k : Int) % 61, 1, ?_⟩
    simp only [e_oNil, e_oSeq, e_oRet, e_dLst, e_aCons, e_dOf, e_b2, e_pI, e_pAddI, e_gSlS, e_gSl0, e_fz, e_aNil, Option.bind_some, Option.map_some, e_kC, pw, m1, m2, u1, List.length_cons, List.length_nil, Nat.zero_add, Nat.reduceAdd, c2, if_true]
end
end Com
namespace Com
open PySem L2 Bd
noncomputable section
theorem forM_inv {α : Type} {t : PyData → En → Option En} {body : GM} (emb : α → PyData) (Q : List α → En → List PyData → Prop) (h : ∀ x xs Γ l, Q (x :: xs) Γ l → ∃ Γ1 Γ' l', t (emb x) Γ = some Γ1 ∧ body Γ1 l = some (.nx Γ' l') ∧ Q xs Γ' l') :
    ∀ (xs : List α) (Γ : En) (l : List PyData), Q xs Γ l → ∃ Γ' l', Bd.forM t body (xs.map emb) Γ l = some (.nx Γ' l') ∧ Q [] Γ' l'
  | [], Γ, l, h0 => ⟨Γ, l, rfl, h0⟩
  | x :: xs, Γ, l, h0 => by
    obtain ⟨Γ1, Γ2, l2, h1, h2, h3⟩ := h x xs Γ l h0
    obtain ⟨Γ3, l3, h4, h5⟩ := forM_inv emb Q h xs Γ2 l2 h3
    refine ⟨Γ3, l3, ?_, h5⟩
    rw [List.map_cons]
    unfold Bd.forM
    rw [h1, Option.bind_some, h2]
    exact h4
theorem take_at (a b many : Int) (h0 : 0 < many) (h1 : many < 18446744073709551616) : ∃ d a' b', mG_law_take [none, some (.int many)] [.int a, .int b] = some (.fz (.int d), [.int a', .int b']) ∧ 0 ≤ d ∧ d < many := take_spec a b many h0 (big250 h1)
end
end Com
namespace Bd
open PySem L2
noncomputable section
section
variable {S : Sx}
def vIf (c : En → Option Bool) (f g : En → Option Sl) : En → Option Sl := fun Γ => match c Γ with
  | some true => f Γ
  | some false => g Γ
  | none => none
end
end
end Bd
namespace Bd
open PySem L2
noncomputable section
section
variable {S : Sx}
end
end
end Bd
namespace Bd
open PySem L2
noncomputable section
def flatSl : Sl → Bool
  | .fz d => flatD d
  | .ow xs => xs.all flatD
def vLend (i : Nat) (f : En → Option Sl) : En → Option Sl := fun Γ => (f (frzE i Γ)).bind fun s => if flatSl s = true then some s else none
section
variable {S : Sx}
end
end
end Bd
namespace Bd
open PySem L2
noncomputable section
section
variable {S : Sx}
def oSwap (j : Nat) (f1 f2 fe : En → Option PyData) : En → Option Out := fun Γ => match Γ[j]?, fe Γ, f1 Γ with
  | some (some (.ow xs)), some (.tuple [d1, d2]), some (.int k1) => (ixN xs.length k1).bind fun n1 => match f2 (setE j (.ow (xs.set n1 d1)) Γ) with
    | some (.int k2) => (ixN xs.length k2).map fun n2 => .nx (setE j (.ow ((xs.set n1 d1).set n2 d2)) (setE j (.ow (xs.set n1 d1)) Γ))
    | _ => none
  | _, _, _ => none
end
end
end Bd
namespace Bd
open PySem L2
noncomputable section
section
variable {S : Sx}
theorem AG.data {K : PySem.W.Frag} {F : Hp} {a : Addr} : ∀ {vs : List V} {ds : List PyData}, DpAll K F vs ds → AG K F a (ds.map some) vs
  | _, _, .nil => .nil
  | _, _, .cons h t => .cons (o := some _) h (AG.data t)
def vCallT (n : Nat) (m : List (Option PyData) → List PyData → Option (Sl × List PyData)) (f0 : En → Option Sl) (r : En → Option (List PyData)) : En → Option Sl := fun Γ => match f0 Γ, r Γ with
  | some (.ow xs), some ds => if ds.length + 1 = n then (m (none :: ds.map some) xs).map fun p => p.1 else none
  | _, _ => none
end
structure SubXX (a b : Addr) (F H F' H' : Hp) : Prop where
  f : Same F F'
  h : ∀ c o, c ≠ a → c ≠ b → H c = some o → H' c = some o
  fh : Same F' H'
  o : ∀ c o, c ≠ b → H c = some o → F c = none → F' c = none
def spO (K : PySem.W.Frag) (m : List PyData → List PyData → Option (Sl × List PyData)) : L2.Sp := fun vs H Q _ =>
  ∃ F a b xs g s g', Same F H ∧ vs = [.ref b, .ref a] ∧ b ≠ a ∧ F a = none ∧ F b = none ∧ (∃ ws, H a = some (.lst ws) ∧ DpAll K F ws g) ∧ (∃ us, H b = some (.lst us) ∧ DpAll K F us xs) ∧ m xs g = some (s, g') ∧
    ∀ v F' H' ws, SubXX a b F H F' H' → H' a = some (.lst ws) → DpAll K F' ws g' → SlV K F' H' s v → (∀ ys c, s = .ow ys → v = .ref c → H c = none ∨ c = b) → Q v H'
structure FnO (S : Sx) (x : Str) (ps : List Str) (m : List PyData → List PyData → Option (Sl × List PyData)) : Prop where
  ex : ∃ (f : Addr) (fd : FuncData) (j : Nat), FnOk S.P S.w S.K S.mg S.base CX0 j f fd ps (spO S.K m) ∧ j ≤ S.k ∧ S.mg x = some (.ref f) ∧ PySem.W.keepIn S.K (.ref f) = true ∧ Binds S.K fd ps []
section
variable {S : Sx} {i : Nat}
def xCallO (m : List PyData → List PyData → Option (Sl × List PyData)) (f0 : En → List PyData → Option (Sl × List PyData)) : En → List PyData → Option (Sl × List PyData) := fun Γ g => match f0 Γ g with
  | some (.ow xs, g1) => m xs g1
  | _ => none
end
end
end Bd
namespace Bd
open PySem L2 PyProof.Rows
noncomputable section
section
variable {S : Sx} {i : Nat}
def xTup (f : En → List PyData → Option (List (Option PyData) × List PyData)) : En → List PyData → Option (Sl × List PyData) := fun Γ g => (f Γ g).bind fun y => (allS y.1).bind fun ds => if ds.length ≤ cap then some (.fz (.tuple ds), y.2) else none
def mPar2 (j1 j2 : Nat) (r : En → List PyData → Option (List (Option PyData) × List PyData)) : GM := fun Γ l => match r Γ l with
  | some ([some d, some e], l') => some (.nx (setE j2 (.fz e) (setE j1 (.fz d) Γ)) l')
  | _ => none
def mPar3 (j1 j2 j3 : Nat) (r : En → List PyData → Option (List (Option PyData) × List PyData)) : GM := fun Γ l => match r Γ l with
  | some ([some d, some e, some c], l') => some (.nx (setE j3 (.fz c) (setE j2 (.fz e) (setE j1 (.fz d) Γ))) l')
  | _ => none
end
end
end Bd
namespace Bd
open PySem L2
noncomputable section
section
variable {S : Sx}
end
end
end Bd
namespace Bd
open PySem L2
noncomputable section
section
variable {S : Sx} {i : Nat}
def mDrp2 (g : En2 → Option Out2) : GM := fun Γ l => match g (upE Γ) with
  | some (.rt (.sl s)) => some (.rt s l)
  | _ => none
end
section
variable {S : Sx}
def forD2 (ix : Nat) (b : En2 → Option Out2) : List PyData → En2 → Option Out2
  | [], Θ => some (.nx Θ)
  | d :: ds, Θ => match b (Θ.set ix (some (.sl (.fz d)))) with
    | some (.nx Θ2) => forD2 ix b ds Θ2
    | some (.rt s) => some (.rt s)
    | none => none
def oFor2 (fi : En → Option (List PyData)) (ix : Nat) (b : En2 → Option Out2) : En2 → Option Out2 := fun Θ => (fi (prj Θ)).bind fun ds => forD2 ix b ds Θ
end
structure SubA (a : Addr) (F H F' H' : Hp) : Prop where
  f : Same F F'
  h : ∀ b o, ¬ DA H (.ref a) b → H b = some o → H' b = some o
  fh : Same F' H'
  o : ∀ b o, H b = some o → F b = none → F' b = none
def spA (K : PySem.W.Frag) (m : List (List PyData) → Option (Bool × List (List PyData))) : L2.Sp := fun vs H Q _ =>
  ∃ F a xss c xss', Same F H ∧ vs = [.ref a] ∧ DwV K F H xss (.ref a) ∧ m xss = some (c, xss') ∧
    ∀ F' H', SubA a F H F' H' → DwV K F' H' xss' (.ref a) → (∀ b, DA H' (.ref a) b ↔ DA H (.ref a) b) → Q (.bl c) H'
structure FnA (S : Sx) (x : Str) (ps : List Str) (m : List (List PyData) → Option (Bool × List (List PyData))) : Prop where
  ex : ∃ (f : Addr) (fd : FuncData) (j : Nat), FnOk S.P S.w S.K S.mg S.base CX0 j f fd ps (spA S.K m) ∧ j ≤ S.k ∧ S.mg x = some (.ref f) ∧ PySem.W.keepIn S.K (.ref f) = true ∧ Binds S.K fd ps []
section
variable {S : Sx}
def oIfA (j : Nat) (m : List (List PyData) → Option (Bool × List (List PyData))) : En2 → Option Out2 := fun Θ => match Θ[j]? with
  | some (some (.dw xss)) => (match m xss with
    | some (true, xss') => some (.nx (Θ.set j (some (.dw xss'))))
    | _ => none)
  | _ => none
def oRevL (j : Nat) : En2 → Option Out2 := fun Θ => match Θ[j]? with
  | some (some (.dw _)) => some (.nx (Θ.set j none))
  | _ => none
def oAppL (j : Nat) (f : En → Option Sl) : En2 → Option Out2 := fun Θ => match Θ[j]?, f (prj Θ) with
  | some (some (.dw xss)), some _ => if xss.length < cap then some (.nx (Θ.set j none)) else none
  | _, _ => none
end
end
end Bd
namespace Bd
open PySem L2
noncomputable section
section
variable {S : Sx} {i : Nat}
def mUnp (f : En → List PyData → Option (PyData × List PyData)) (g : PyData → En → Option En) : GM := fun Γ l => (f Γ l).bind fun p => (g p.1 Γ).map fun Γ' => .nx Γ' p.2
end
end
end Bd
namespace Bd
open PySem L2
noncomputable section
section
variable {S : Sx}
def vRepL (fa : En → Option Sl) (g : En → Option PyData) : En → Option Sl := fun Γ => match fa Γ, g Γ with
  | some (.ow xs), some (.int k) => if 0 ≤ k ∧ k ≤ (cap : Int) ∧ xs.length * k.toNat ≤ cap then some (.ow (List.replicate k.toNat xs).flatten) else none
  | _, _ => none
end
end
end Bd
namespace Com
open PySem L2 Bd
noncomputable section
section
variable {f g : En → Option PyData} {c : En → Option Bool} {fs gs : En → Option Sl} {Γ : En} {l : List PyData}
theorem e_oPar {i j : Nat} {a : En → Option (List PyData)} : oPar i j a Γ = (match a Γ with | some [d, e] => some (.nx (setE j (.fz e) (setE i (.fz d) Γ))) | _ => none) := id rfl
theorem e_oAug {i : Nat} {h : Int → Int → Int} : oAug i h f Γ = (match gSl i Γ, f Γ with | some (.int x), some (.int y) => some (.nx (setE i (.fz (.int (h x y))) Γ)) | _, _ => none) := id rfl
theorem e_oRevS {i : Nat} : oRevS i Γ = (match Γ[i]? with | some (some (.ow xs)) => some (.nx (setE i (.ow xs.reverse) Γ)) | _ => none) := id rfl
theorem e_vIf : vIf c fs gs Γ = (match c Γ with | some true => fs Γ | some false => gs Γ | none => none) := id rfl
theorem e_vLend {i : Nat} : vLend i fs Γ = (fs (frzE i Γ)).bind fun s => if flatSl s = true then some s else none := id rfl
theorem e_flatO {ns : List Int} : flatSl (.ow (nums ns)) = true := flat_nums ns
theorem e_flatFB {b : Bool} : flatSl (.fz (.bool b)) = true := id rfl
theorem e_flatFI {b : Int} : flatSl (.fz (.int b)) = true := id rfl
theorem e_oSwap {j : Nat} {f1 f2 fe : En → Option PyData} : oSwap j f1 f2 fe Γ = (match Γ[j]?, fe Γ, f1 Γ with | some (some (.ow xs)), some (.tuple [d1, d2]), some (.int k1) => (ixN xs.length k1).bind fun n1 => (match f2 (setE j (.ow (xs.set n1 d1)) Γ) with | some (.int k2) => (ixN xs.length k2).map fun n2 => .nx (setE j (.ow ((xs.set n1 d1).set n2 d2)) (setE j (.ow (xs.set n1 d1)) Γ)) | _ => none) | _, _, _ => none) := id rfl
theorem e_vCallT {n : Nat} {m : List (Option PyData) → List PyData → Option (Sl × List PyData)} {r : En → Option (List PyData)} : vCallT n m fs r Γ = (match fs Γ, r Γ with | some (.ow xs), some ds => if ds.length + 1 = n then (m (none :: ds.map some) xs).map fun p => p.1 else none | _, _ => none) := id rfl
theorem e_xCallO {m : List PyData → List PyData → Option (Sl × List PyData)} {f0 : En → List PyData → Option (Sl × List PyData)} : xCallO m f0 Γ l = (match f0 Γ l with | some (.ow xs, g1) => m xs g1 | _ => none) := id rfl
theorem e_mIns {j : Nat} {fi fv : En → List PyData → Option (PyData × List PyData)} : mIns j fi fv Γ l = (match Γ[j]?, fi Γ l with | some (some (.ow xs)), some (.int kk, l1) => (match fv Γ l1 with | some (d, l2) => if 0 ≤ kk ∧ kk.toNat ≤ xs.length ∧ xs.length < cap then some (.nx (setE j (.ow (xs.take kk.toNat ++ d :: xs.drop kk.toNat)) Γ) l2) else none | none => none) | _, _ => none) := id rfl
theorem e_mSetIx {j : Nat} {fv : En → List PyData → Option (PyData × List PyData)} : mSetIx j f fv Γ l = (match Γ[j]?, fv Γ l, f Γ with | some (some (.ow xs)), some (d, l'), some (.int k) => (ixN xs.length k).map fun n => .nx (setE j (.ow (xs.set n d)) Γ) l' | _, _, _ => none) := id rfl
theorem e_mUnp {f : En → List PyData → Option (PyData × List PyData)} {u : PyData → En → Option En} : mUnp f u Γ l = (f Γ l).bind fun p => (u p.1 Γ).map fun Γ' => .nx Γ' p.2 := id rfl
theorem e_mPar2 {j1 j2 : Nat} {r : En → List PyData → Option (List (Option PyData) × List PyData)} : mPar2 j1 j2 r Γ l = (match r Γ l with | some ([some d, some e], l') => some (.nx (setE j2 (.fz e) (setE j1 (.fz d) Γ)) l') | _ => none) := id rfl
theorem e_mPar3 {j1 j2 j3 : Nat} {r : En → List PyData → Option (List (Option PyData) × List PyData)} : mPar3 j1 j2 j3 r Γ l = (match r Γ l with | some ([some d, some e, some c], l') => some (.nx (setE j3 (.fz c) (setE j2 (.fz e) (setE j1 (.fz d) Γ))) l') | _ => none) := id rfl
theorem e_xTup {r : En → List PyData → Option (List (Option PyData) × List PyData)} : xTup r Γ l = (r Γ l).bind fun y => (allS y.1).bind fun ds => if ds.length ≤ cap then some (.fz (.tuple ds), y.2) else none := id rfl
theorem e_allN : allS [] = some [] := id rfl
theorem e_allC {d : PyData} {os : List (Option PyData)} : allS (some d :: os) = (allS os).map (d :: ·) := id rfl
theorem e_mDrp2 {k : En2 → Option Out2} : mDrp2 k Γ l = (match k (upE Γ) with | some (.rt (.sl s)) => some (.rt s l) | _ => none) := id rfl
theorem e_oFor2 {fi : En → Option (List PyData)} {ix : Nat} {b : En2 → Option Out2} {Θ : En2} : oFor2 fi ix b Θ = (fi (prj Θ)).bind fun ds => forD2 ix b ds Θ := id rfl
theorem e_oIfA {j : Nat} {m : List (List PyData) → Option (Bool × List (List PyData))} {Θ : En2} : oIfA j m Θ = (match Θ[j]? with | some (some (.dw xss)) => (match m xss with | some (true, xss') => some (.nx (Θ.set j (some (.dw xss')))) | _ => none) | _ => none) := id rfl
theorem e_oRevL {j : Nat} {Θ : En2} : oRevL j Θ = (match Θ[j]? with | some (some (.dw _)) => some (.nx (Θ.set j none)) | _ => none) := id rfl
theorem e_oAppL {j : Nat} {Θ : En2} : oAppL j fs Θ = (match Θ[j]?, fs (prj Θ) with | some (some (.dw xss)), some _ => if xss.length < cap then some (.nx (Θ.set j none)) else none | _, _ => none) := id rfl
theorem e_xLst {r : En → List PyData → Option (List (Option PyData) × List PyData)} : xLst r Γ l = (r Γ l).bind fun y => (allS y.1).bind fun ds => if ds.length ≤ cap then some (.ow ds, y.2) else none := id rfl
theorem e_gTpl3 {g h k : PyData → En → Option En} {a b c : PyData} : gTpl 3 (gsCons g (gsCons h (gsCons k gsNil))) (.tuple [a, b, c]) Γ = (g a Γ).bind fun Γ1 => (h b Γ1).bind fun Γ2 => (k c Γ2).bind fun Γ3 => some Γ3 := by
  unfold gTpl gsCons gsNil
  simp only [List.length_cons, List.length_nil]
  rfl
theorem e_vRepL : vRepL fs f Γ = (match fs Γ, f Γ with | some (.ow xs), some (.int k) => if 0 ≤ k ∧ k ≤ (cap : Int) ∧ xs.length * k.toNat ≤ cap then some (.ow (List.replicate k.toNat xs).flatten) else none | _, _ => none) := id rfl
theorem e_pInt1B {b : Bool} : pInt1 [.bool b] = some (.fz (.int (if b then 1 else 0))) := id rfl
theorem e_oAugIx {i : Nat} {h : Int → Int → Int} : oAugIx i h f g Γ = (match Γ[i]?, f Γ, g Γ with | some (some (.ow xs)), some (.int k), some (.int y) => (if 0 ≤ k then (match xs[k.toNat]? with | some (.int x) => some (.nx (setE i (.ow (xs.set k.toNat (.int (h x y)))) Γ)) | _ => none) else none) | _, _, _ => none) := id rfl
theorem e_gGh {i : Nat} {k : GM} : gGh i fs k Γ = (match fs Γ with | some (.ow xs) => if i < Γ.length then (match k (Γ.set i none) xs with | some (.rt s _) => some (.rt s) | _ => none) else none | _ => none) := id rfl
theorem e_isB {a b : Bool} : pIsB false (.bool a) (.bool b) = some (.fz (.bool (a == b))) := id rfl
theorem e_isNotBB {a b : Bool} : pIsB true (.bool a) (.bool b) = some (.fz (.bool (!(a == b)))) := id rfl
theorem e_oUnp {u : PyData → En → Option En} : oUnp f u Γ = (f Γ).bind fun d => (u d Γ).map Out.nx := id rfl
theorem e_iZp : iZp f g Γ = (match f Γ, g Γ with | some (.list xs), some (.list ys) => some (zipD xs ys) | _, _ => none) := id rfl
theorem e_oSetIxM {i : Nat} : oSetIx i f g Γ = (match Γ[i]?, f Γ, g Γ with | some (some (.ow xs)), some (.int k), some d => (ixN xs.length k).map fun j => .nx (setE i (.ow (xs.set j d)) Γ) | _, _, _ => none) := id rfl
theorem e_isBB {b : Bool} : isTy "bool" (.bool b) = true := by unfold isTy; rfl
theorem e_oWhile {n : Nat} {b : En → Option Out} : oWhile n c b Γ = whileD c b n Γ := id rfl
theorem e_pSum {ns : List Int} : pSum [.list (nums ns)] = some (.fz (.int ns.sum)) := by
  unfold pSum
  dsimp only
  rw [toInts_map]; rfl
end
end
end Com
namespace Tb
open PySem L2 Bd
open Com hiding g_law_row m_law_row
noncomputable section
def g_many_columns : En → Option Out :=
  (oSeq (oRet (vIf (bOf (b2 pGt (dOf (callD pLen (aCons (gSl 0) aNil))) (kC (.int 0)))) (callD pLen (aCons (dOf (b2 pIx (gSl 0) (kC (.int 0)))) aNil)) (fzOf (kC (.int 0)))))
  oNil)
def m_many_columns : List PyData → Option Sl := mirror 1 g_many_columns
def g_law_cell_at : En → Option Out :=
  (oSeq (oIf (bOf (b2 pLt (gSl 1) (dOf (callD pLen (aCons (gSl 0) aNil)))))
  (oSeq (oRet (b2 pIx (gSl 0) (gSl 1)))
  oNil)
  oNil)
  (oSeq (oRet (fzOf (kC (.int 0))))
  oNil))
def m_law_cell_at : List PyData → Option Sl := mirror 2 g_law_cell_at
def g_law_big_b1 : En → Option Out :=
  (oSeq (oSet 7 (fzOf (dOf (b2 pAdd (dOf (b2 pAdd (dOf (b2 pMod (dOf (callD m_law_cell_at (aCons (gFz 0) (aCons (dOf (b2 pAdd (gSl 1) (dOf (b2 pMod (gSl 6) (kC (.int 9)))))) aNil)))) (dOf (b2 pPow (kC (.int 10)) (kC (.int 18)))))) (kC (.int 1)))) (dOf (b2 pMul (gSl 6) (gSl 6)))))))
  (oSeq (oSet 5 (fzOf (dOf (b2 pAdd (dOf (b2 pMul (gSl 5) (kC (.int 7919)))) (dOf (b2 pMod (dOf (b2 pMod (dOf (b2 pMul (gSl 7) (dOf (b2 pIx (gSl 2) (dOf (b2 pMod (gSl 6) (kC (.int 8)))))))) (dOf (b2 pIx (gSl 3) (dOf (b2 pMod (gSl 6) (kC (.int 8)))))))) (kC (.int 7919))))))))
  oNil))
def g_law_big : En → Option Out :=
  (oSeq (oSet 2 (fzOf (dOf (dTup (aCons (kC (.int 48271)) (aCons (kC (.int 69621)) (aCons (kC (.int 16807)) (aCons (kC (.int 39373)) (aCons (kC (.int 21401)) (aCons (kC (.int 60493)) (aCons (kC (.int 87721)) (aCons (kC (.int 31337)) aNil))))))))))))
  (oSeq (oSet 3 (fzOf (dOf (dTup (aCons (kC (.int 99991)) (aCons (kC (.int 99989)) (aCons (kC (.int 99971)) (aCons (kC (.int 99961)) (aCons (kC (.int 99929)) (aCons (kC (.int 99923)) (aCons (kC (.int 99907)) (aCons (kC (.int 99901)) aNil))))))))))))
  (oSeq (oSet 4 (fzOf (dOf (callD m_law_cell_at (aCons (gFz 0) (aCons (gFz 1) aNil))))))
  (oSeq (oIf (bOf (b2 pGe (gSl 4) (dOf (b2 pPow (kC (.int 10)) (kC (.int 18))))))
  (oSeq (oRetV 4)
  oNil)
  oNil)
  (oSeq (oSet 5 (fzOf (kC (.int 0))))
  (oSeq (oFor (iR1 (kC (.int 60))) (gNm 6)
  g_law_big_b1)
  (oSeq (oRetV 5)
  oNil)))))))
def m_law_big : List PyData → Option Sl := mirror 8 g_law_big
def gG_law_digit : GM :=
  (mSeq (mSet 2 (xFz (xV (x2 pMod (xGix (kC (.int 0))) (xPV (gFz 1))))))
  (mSeq (mGset (kC (.int 0)) (xV (x2 pDivW (xGix (kC (.int 0))) (xPV (gFz 1)))))
  (mSeq (mLft (oRetV 2))
  mNil)))
def mG_law_digit : List (Option PyData) → List PyData → Option (Sl × List PyData) := mirrorG 3 0 gG_law_digit
def gG_law_number : GM :=
  (mSeq (mLft (oSet 2 (fzOf (dOf (b2 pIx (dOf (dTup (aCons (kC (.int 3)) (aCons (kC (.int 100)) (aCons (dOf (b2 pPow (kC (.int 10)) (kC (.int 12)))) (aCons (dOf (b2 pPow (kC (.int 10)) (kC (.int 60)))) aNil)))))) (gSl 1))))))
  (mSeq (mSet 3 (xFz (xV (x2 pSub (xPV (kC (.int 1))) (xV (x2 pMul (xPV (kC (.int 2))) (xV (xCallG 2 mG_law_digit (gaG (gaV (xPV (kC (.int 2))) gaNil))))))))))
  (mSeq (mRet (x2 pMul (xPV (gFz 3)) (xV (xCallG 2 mG_law_digit (gaG (gaV (xPV (gFz 2)) gaNil))))))
  mNil)))
def mG_law_number : List (Option PyData) → List PyData → Option (Sl × List PyData) := mirrorG 4 0 gG_law_number
def gG_law_row_b1 : GM :=
  (mSeq (mApp 5 (xV (xCallG 2 mG_law_number (gaG (gaV (xPV (gFz 3)) gaNil)))))
  mNil)
def g_law_row : En → Option Out :=
  (gGh 4 (dLst (aCons (dOf (callD m_law_big (aCons (gFz 0) (aCons (gFz 1) aNil)))) aNil))
  (mSeq (mLft (oSet 5 (dLst aNil)))
  (mSeq (mFor (xPI (iR1 (gSl 2))) (gNm 6)
  gG_law_row_b1)
  (mSeq (mLft (oRetV 5))
  mNil))))
def m_law_row : List PyData → Option Sl := mirror 7 g_law_row
def g_law_copy : En → Option Out :=
  (oSeq (oRet (vLc (iLst (gSl 0)) (gNm 1) bYes (dOf (callD pListOf (aCons (gSl 1) aNil))) [1]))
  oNil)
def m_law_copy : List PyData → Option Sl := mirror 2 g_law_copy
theorem digit_spec (a many : Int) (h0 : 0 < many) (h1 : many < (big (2 ^ 250) : Int)) : mG_law_digit [none, some (.int many)] [.int a] = some (.fz (.int (a % many)), [.int (a / many)]) := by
  have mm : modB a many = true := by unfold modB; simp [h0]
  have dm : divW a many = true := divW_ok h0 h1
  have x0 : ixN 1 0 = some 0 := by unfold ixN; rfl
  unfold mG_law_digit mirrorG gG_law_digit startG
  simp only [List.map_cons, List.map_nil, List.length_cons, List.length_nil, List.replicate, List.cons_append, List.nil_append, List.getElem?_cons_zero, List.getElem?_cons_succ, List.set_cons_succ, List.set_cons_zero, Nat.reduceSub, Nat.zero_add, Nat.reduceAdd, Option.map_some, Option.map_none, Option.bind_some, if_true, List.length_map, List.length_range, e_setE0, e_setES, e_dOf, e_fzOf, e_fz, e_ow, e_gSl0, e_gSlS, e_gFz0, e_gFzS, e_kC, e_aNil, e_aCons, e_dLst, e_dTup, e_b2, e_pI, e_pAddI, e_pAddL, e_callD, e_bOf, e_bNot, e_bTru, e_truB, e_bAnd, e_bOr, e_vAnd, e_bYes, e_pLenL, e_pLenT, e_pAbs, e_pListOf, e_pIxL, e_pIxT, e_vIsi, e_iLst, e_iEnm, e_gNm, e_oNil, e_oSeq, e_oSet, e_oRet, e_oIf, e_oFor, e_oFrz, e_vLc, e_frz0w, e_frz0f, e_frzS, e_wipeN, e_wipeC, e_oRetV, e_oApp, e_oExt, e_iOwn, e_iOwnE, e_gTpl2, e_pEqI, e_pNeI, e_pNeB, e_pEqB, e_vChain, e_vNeg, e_vRev, e_oInt, e_dSl, e_vNot, e_vOr, e_vLc2, e_isiL, e_isiI, e_isiB, e_isBB, e_oPar, e_oAug, e_oRevS, e_vIf, e_gGh, e_vRepL, e_pInt1B, e_oAugIx, e_mUnp, e_mPar2, e_mPar3, e_xTup, e_xLst, e_allN, e_allC, e_mDrp2, e_gTpl3, e_oSwap, e_vCallT, e_xCallO, e_mIns, e_mSetIx, e_vLend, e_flatO, e_flatFB, e_flatFI, e_isB, e_isNotBB, e_oUnp, e_iZp, e_oSetIxM, e_oIns, e_oWhile, e_xPV, e_xP, e_xPB, e_xPI, e_xV, e_xFz, e_x2, e_x2N, e_xB, e_xGix, e_mNil, e_mSeq, e_mIf, e_mRet, e_mSet, e_mGset, e_mGaug, e_mLft, e_mFor, e_mApp, e_gaNil, e_gaV, e_gaG, e_xCallG, Nat.reduceLT, Nat.reduceLeDiff, atI_0, mm, dm, x0]
theorem digit_at (a many : Int) (h0 : 0 < many) (h1 : many < 18446744073709551616) : mG_law_digit [none, some (.int many)] [.int a] = some (.fz (.int (a % many)), [.int (a / many)]) := digit_spec a many h0 (big250 h1)
def LT60 (x : Int) : Prop := x.natAbs < 10 ^ 60
theorem number_spec (a kind : Int) (k0 : 0 ≤ kind) (k1 : kind < 4) : ∃ v a' : Int, mG_law_number [none, some (.int kind)] [.int a] = some (.fz (.int v), [.int a']) ∧ LT60 v := by
  have c4 : (4 : Nat) ≤ cap := by rw [cap_eq]; decide
  have p12 : powB 10 12 = true := by unfold powB; rw [big_eq, big_eq]; decide
  have p60 : powB 10 60 = true := by unfold powB; rw [big_eq, big_eq]; decide
  have ex : ∃ most : Int, atI [PyData.int 3, .int 100, .int ((10 : Int) ^ (12 : Int).toNat), .int ((10 : Int) ^ (60 : Int).toNat)] kind = some (.int most) ∧ 0 < most ∧ most ≤ 10 ^ 60 ∧ most < (big (2 ^ 250) : Int) := by
    have b60 : (10 : Int) ^ 60 < (big (2 ^ 250) : Int) := by
      rw [big_eq]
      have h : (10 : Nat) ^ 60 < 2 ^ 250 := by decide
      exact_mod_cast h
    have : kind = 0 ∨ kind = 1 ∨ kind = 2 ∨ kind = 3 := by omega
    rcases this with rfl | rfl | rfl | rfl
    · exact ⟨3, rfl, by decide, by decide, Int.lt_of_le_of_lt (by decide) b60⟩
    · exact ⟨100, rfl, by decide, by decide, Int.lt_of_le_of_lt (by decide) b60⟩
    · exact ⟨10 ^ 12, rfl, by decide, by decide, Int.lt_of_le_of_lt (by decide) b60⟩
    · exact ⟨10 ^ 60, rfl, by decide, by decide, b60⟩
  obtain ⟨most, hm, m0, m1, m2⟩ := ex
  have d1 := digit_at a 2 (by decide) (by decide)
  have d2 := digit_spec (a / 2) most m0 m2
  have u2 : ∀ i, mulB 2 i = true := fun i => mulB_l (by decide) (by decide)
  have us : ∀ i, mulB (1 - 2 * (a % 2)) i = true := fun i => mul_l i (by omega)
  refine ⟨(1 - 2 * (a % 2)) * (a / 2 % most), a / 2 / most, ?_, ?_⟩
  · unfold mG_law_number mirrorG gG_law_number startG
    generalize mG_law_digit = mt at d1 d2
    simp only [List.map_cons, List.map_nil, List.length_cons, List.length_nil, List.replicate, List.cons_append, List.nil_append, List.getElem?_cons_zero, List.getElem?_cons_succ, List.set_cons_succ, List.set_cons_zero, Nat.reduceSub, Nat.zero_add, Nat.reduceAdd, Option.map_some, Option.map_none, Option.bind_some, if_true, List.length_map, List.length_range, e_setE0, e_setES, e_dOf, e_fzOf, e_fz, e_ow, e_gSl0, e_gSlS, e_gFz0, e_gFzS, e_kC, e_aNil, e_aCons, e_dLst, e_dTup, e_b2, e_pI, e_pAddI, e_pAddL, e_callD, e_bOf, e_bNot, e_bTru, e_truB, e_bAnd, e_bOr, e_vAnd, e_bYes, e_pLenL, e_pLenT, e_pAbs, e_pListOf, e_pIxL, e_pIxT, e_vIsi, e_iLst, e_iEnm, e_gNm, e_oNil, e_oSeq, e_oSet, e_oRet, e_oIf, e_oFor, e_oFrz, e_vLc, e_frz0w, e_frz0f, e_frzS, e_wipeN, e_wipeC, e_oRetV, e_oApp, e_oExt, e_iOwn, e_iOwnE, e_gTpl2, e_pEqI, e_pNeI, e_pNeB, e_pEqB, e_vChain, e_vNeg, e_vRev, e_oInt, e_dSl, e_vNot, e_vOr, e_vLc2, e_isiL, e_isiI, e_isiB, e_isBB, e_oPar, e_oAug, e_oRevS, e_vIf, e_gGh, e_vRepL, e_pInt1B, e_oAugIx, e_mUnp, e_mPar2, e_mPar3, e_xTup, e_xLst, e_allN, e_allC, e_mDrp2, e_gTpl3, e_oSwap, e_vCallT, e_xCallO, e_mIns, e_mSetIx, e_vLend, e_flatO, e_flatFB, e_flatFI, e_isB, e_isNotBB, e_oUnp, e_iZp, e_oSetIxM, e_oIns, e_oWhile, e_xPV, e_xP, e_xPB, e_xPI, e_xV, e_xFz, e_x2, e_x2N, e_xB, e_xGix, e_mNil, e_mSeq, e_mIf, e_mRet, e_mSet, e_mGset, e_mGaug, e_mLft, e_mFor, e_mApp, e_gaNil, e_gaV, e_gaG, e_xCallG, Nat.reduceLT, Nat.reduceLeDiff, c4, p12, p60, hm, d1, d2, u2, us]
  · unfold LT60
    have e1 := Int.emod_nonneg (a / 2) (show most ≠ 0 by omega)
    have e2 := Int.emod_lt_of_pos (a / 2) m0
    have h60 : ((10 ^ 60 : Nat) : Int) = (10 : Int) ^ 60 := by norm_cast
    have : (1 - 2 * (a % 2) = 1) ∨ (1 - 2 * (a % 2) = -1) := by omega
    rcases this with h | h <;> rw [h] <;> omega
theorem copy_spec (o : List (List Int)) (h : o.length < 1000) : m_law_copy [.list (rows o)] = some (.ow (rows o)) := by
  have c1 : o.length < cap := by rw [cap_eq]; omega
  have lc := copy_rows (i := 1) (Γ := [some (.fz (.list (rows o))), none]) o fun r => by simp only [List.map_cons, List.map_nil, List.length_cons, List.length_nil, List.replicate, List.cons_append, List.nil_append, List.getElem?_cons_zero, List.getElem?_cons_succ, List.set_cons_succ, List.set_cons_zero, Nat.reduceSub, Nat.zero_add, Nat.reduceAdd, Option.map_some, Option.map_none, Option.bind_some, if_true, List.length_map, List.length_range, e_setE0, e_setES, e_dOf, e_fzOf, e_fz, e_ow, e_gSl0, e_gSlS, e_gFz0, e_gFzS, e_kC, e_aNil, e_aCons, e_dLst, e_dTup, e_b2, e_pI, e_pAddI, e_pAddL, e_callD, e_bOf, e_bNot, e_bTru, e_truB, e_bAnd, e_bOr, e_vAnd, e_bYes, e_pLenL, e_pLenT, e_pAbs, e_pListOf, e_pIxL, e_pIxT, e_vIsi, e_iLst, e_iEnm, e_gNm, e_oNil, e_oSeq, e_oSet, e_oRet, e_oIf, e_oFor, e_oFrz, e_vLc, e_frz0w, e_frz0f, e_frzS, e_wipeN, e_wipeC, e_oRetV, e_oApp, e_oExt, e_iOwn, e_iOwnE, e_gTpl2, e_pEqI, e_pNeI, e_pNeB, e_pEqB, e_vChain, e_vNeg, e_vRev, e_oInt, e_dSl, e_vNot, e_vOr, e_vLc2, e_isiL, e_isiI, e_isiB, e_isBB, e_oPar, e_oAug, e_oRevS, e_vIf, e_gGh, e_vRepL, e_pInt1B, e_oAugIx, e_mUnp, e_mPar2, e_mPar3, e_xTup, e_xLst, e_allN, e_allC, e_mDrp2, e_gTpl3, e_oSwap, e_vCallT, e_xCallO, e_mIns, e_mSetIx, e_vLend, e_flatO, e_flatFB, e_flatFI, e_isB, e_isNotBB, e_oUnp, e_iZp, e_oSetIxM, e_oIns, e_oWhile, e_xPV, e_xP, e_xPB, e_xPI, e_xV, e_xFz, e_x2, e_x2N, e_xB, e_xGix, e_mNil, e_mSeq, e_mIf, e_mRet, e_mSet, e_mGset, e_mGaug, e_mLft, e_mFor, e_mApp, e_gaNil, e_gaV, e_gaG, e_xCallG, Nat.reduceLT, Nat.reduceLeDiff]
  unfold m_law_copy mirror g_law_copy startE
  simp only [List.map_cons, List.map_nil, List.length_cons, List.length_nil, List.replicate, List.cons_append, List.nil_append, List.getElem?_cons_zero, List.getElem?_cons_succ, List.set_cons_succ, List.set_cons_zero, Nat.reduceSub, Nat.zero_add, Nat.reduceAdd, Option.map_some, Option.map_none, Option.bind_some, if_true, List.length_map, List.length_range, e_setE0, e_setES, e_dOf, e_fzOf, e_fz, e_ow, e_gSl0, e_gSlS, e_gFz0, e_gFzS, e_kC, e_aNil, e_aCons, e_dLst, e_dTup, e_b2, e_pI, e_pAddI, e_pAddL, e_callD, e_bOf, e_bNot, e_bTru, e_truB, e_bAnd, e_bOr, e_vAnd, e_bYes, e_pLenL, e_pLenT, e_pAbs, e_pListOf, e_pIxL, e_pIxT, e_vIsi, e_iLst, e_iEnm, e_gNm, e_oNil, e_oSeq, e_oSet, e_oRet, e_oIf, e_oFor, e_oFrz, e_vLc, e_frz0w, e_frz0f, e_frzS, e_wipeN, e_wipeC, e_oRetV, e_oApp, e_oExt, e_iOwn, e_iOwnE, e_gTpl2, e_pEqI, e_pNeI, e_pNeB, e_pEqB, e_vChain, e_vNeg, e_vRev, e_oInt, e_dSl, e_vNot, e_vOr, e_vLc2, e_isiL, e_isiI, e_isiB, e_isBB, e_oPar, e_oAug, e_oRevS, e_vIf, e_gGh, e_vRepL, e_pInt1B, e_oAugIx, e_mUnp, e_mPar2, e_mPar3, e_xTup, e_xLst, e_allN, e_allC, e_mDrp2, e_gTpl3, e_oSwap, e_vCallT, e_xCallO, e_mIns, e_mSetIx, e_vLend, e_flatO, e_flatFB, e_flatFI, e_isB, e_isNotBB, e_oUnp, e_iZp, e_oSetIxM, e_oIns, e_oWhile, e_xPV, e_xP, e_xPB, e_xPI, e_xV, e_xFz, e_x2, e_x2N, e_xB, e_xGix, e_mNil, e_mSeq, e_mIf, e_mRet, e_mSet, e_mGset, e_mGaug, e_mLft, e_mFor, e_mApp, e_gaNil, e_gaV, e_gaG, e_xCallG, Nat.reduceLT, Nat.reduceLeDiff, c1, lc]
end
end Tb
namespace Tb
open PySem L2 Bd
open Com hiding g_law_row m_law_row
noncomputable section
def tot (r : List Int) (t : List (List Int)) (j : Nat) : Int := ((List.range r.length).map fun (k : Nat) => r.getD k 0 * (t.getD k []).getD j 0).sum
def Small (x : Int) : Prop := x.natAbs < big (2 ^ 20000)
theorem LT60.small {x : Int} (h : LT60 x) : Small x := by
  unfold LT60 at h
  unfold Small
  rw [big_eq]
  have h1 : (10 : Nat) ^ 60 ≤ 2 ^ 200 := by decide
  have h2 : (2 : Nat) ^ 200 ≤ 2 ^ 20000 := Nat.pow_le_pow_right (by decide) (by decide)
  omega
theorem many_spec (t : List (List Int)) (w : Nat) (h0 : t ≠ [] ∨ w = 0) (hw : ∀ r ∈ t, r.length = w) : m_many_columns [.list (rows t)] = some (.fz (.int (w : Int))) := by
  unfold m_many_columns mirror g_many_columns startE
  cases t with
  | nil =>
    have : w = 0 := by rcases h0 with h | h; exact absurd rfl h; exact h
    subst this
    simp only [List.map_cons, List.map_nil, List.length_cons, List.length_nil, List.replicate, List.cons_append, List.nil_append, List.getElem?_cons_zero, List.getElem?_cons_succ, List.set_cons_succ, List.set_cons_zero, Nat.reduceSub, Nat.zero_add, Nat.reduceAdd, Option.map_some, Option.map_none, Option.bind_some, if_true, List.length_map, List.length_range, e_setE0, e_setES, e_dOf, e_fzOf, e_fz, e_ow, e_gSl0, e_gSlS, e_gFz0, e_gFzS, e_kC, e_aNil, e_aCons, e_dLst, e_dTup, e_b2, e_pI, e_pAddI, e_pAddL, e_callD, e_bOf, e_bNot, e_bTru, e_truB, e_bAnd, e_bOr, e_vAnd, e_bYes, e_pLenL, e_pLenT, e_pAbs, e_pListOf, e_pIxL, e_pIxT, e_vIsi, e_iLst, e_iEnm, e_gNm, e_oNil, e_oSeq, e_oSet, e_oRet, e_oIf, e_oFor, e_oFrz, e_vLc, e_frz0w, e_frz0f, e_frzS, e_wipeN, e_wipeC, e_oRetV, e_oApp, e_oExt, e_iOwn, e_iOwnE, e_gTpl2, e_pEqI, e_pNeI, e_pNeB, e_pEqB, e_vChain, e_vNeg, e_vRev, e_oInt, e_dSl, e_vNot, e_vOr, e_vLc2, e_isiL, e_isiI, e_isiB, e_isBB, e_oPar, e_oAug, e_oRevS, e_vIf, e_gGh, e_vRepL, e_pInt1B, e_oAugIx, e_mUnp, e_mPar2, e_mPar3, e_xTup, e_xLst, e_allN, e_allC, e_mDrp2, e_gTpl3, e_oSwap, e_vCallT, e_xCallO, e_mIns, e_mSetIx, e_vLend, e_flatO, e_flatFB, e_flatFI, e_isB, e_isNotBB, e_oUnp, e_iZp, e_oSetIxM, e_oIns, e_oWhile, e_xPV, e_xP, e_xPB, e_xPI, e_xV, e_xFz, e_x2, e_x2N, e_xB, e_xGix, e_mNil, e_mSeq, e_mIf, e_mRet, e_mSet, e_mGset, e_mGaug, e_mLft, e_mFor, e_mApp, e_gaNil, e_gaV, e_gaG, e_xCallG, Nat.reduceLT, Nat.reduceLeDiff, Int.natCast_zero, Int.lt_irrefl, decide_false]
  | cons r t =>
    have d : decide ((0 : Int) < ((t.length + 1 : Nat) : Int)) = true := decide_eq_true (by omega)
    have hr := hw r List.mem_cons_self
    have a0 : atI (rowD r :: t.map rowD) 0 = some (rowD r) := atI_of (by decide) rfl
    simp only [List.map_cons, List.map_nil, List.length_cons, List.length_nil, List.replicate, List.cons_append, List.nil_append, List.getElem?_cons_zero, List.getElem?_cons_succ, List.set_cons_succ, List.set_cons_zero, Nat.reduceSub, Nat.zero_add, Nat.reduceAdd, Option.map_some, Option.map_none, Option.bind_some, if_true, List.length_map, List.length_range, e_setE0, e_setES, e_dOf, e_fzOf, e_fz, e_ow, e_gSl0, e_gSlS, e_gFz0, e_gFzS, e_kC, e_aNil, e_aCons, e_dLst, e_dTup, e_b2, e_pI, e_pAddI, e_pAddL, e_callD, e_bOf, e_bNot, e_bTru, e_truB, e_bAnd, e_bOr, e_vAnd, e_bYes, e_pLenL, e_pLenT, e_pAbs, e_pListOf, e_pIxL, e_pIxT, e_vIsi, e_iLst, e_iEnm, e_gNm, e_oNil, e_oSeq, e_oSet, e_oRet, e_oIf, e_oFor, e_oFrz, e_vLc, e_frz0w, e_frz0f, e_frzS, e_wipeN, e_wipeC, e_oRetV, e_oApp, e_oExt, e_iOwn, e_iOwnE, e_gTpl2, e_pEqI, e_pNeI, e_pNeB, e_pEqB, e_vChain, e_vNeg, e_vRev, e_oInt, e_dSl, e_vNot, e_vOr, e_vLc2, e_isiL, e_isiI, e_isiB, e_isBB, e_oPar, e_oAug, e_oRevS, e_vIf, e_gGh, e_vRepL, e_pInt1B, e_oAugIx, e_mUnp, e_mPar2, e_mPar3, e_xTup, e_xLst, e_allN, e_allC, e_mDrp2, e_gTpl3, e_oSwap, e_vCallT, e_xCallO, e_mIns, e_mSetIx, e_vLend, e_flatO, e_flatFB, e_flatFI, e_isB, e_isNotBB, e_oUnp, e_iZp, e_oSetIxM, e_oIns, e_oWhile, e_xPV, e_xP, e_xPB, e_xPI, e_xV, e_xFz, e_x2, e_x2N, e_xB, e_xGix, e_mNil, e_mSeq, e_mIf, e_mRet, e_mSet, e_mGset, e_mGaug, e_mLft, e_mFor, e_mApp, e_gaNil, e_gaV, e_gaG, e_xCallG, Nat.reduceLT, Nat.reduceLeDiff, d, a0]
    rw [hr]
end
end Tb
namespace Bd
open PySem L2 PyProof.Rows
noncomputable section
section
variable {prog : Program} {w : World} {A : Around} {E : Value → Shared → Prop} {s : Shared}
end
end
end Bd
namespace Bd
open PySem L2
noncomputable section
section
variable {X : Cx}
end
section
variable {S : Sx} {Z : St → Prop}
def ZE (S : Sx) (Z : St → Prop) (e : Expr) (f : En → Option Sl) : Prop :=
  ∃ t : TE, (∀ X, S.Ok X → PE X e t) ∧ ∀ Γ σ H0 F H Q s, EnR S.K H0 F H Γ σ → Z σ → f Γ = some s → (∀ v F' H', Sub F H F' H' → SlN S.K H F' H' s v → Q v H') → t σ H Q
def ZV (S : Sx) (Z : St → Prop) (e : Expr) (f : En → Option PyData) : Prop :=
  ∃ t : TE, (∀ X, S.Ok X → PE X e t) ∧ ∀ Γ σ H0 F H Q d, EnR S.K H0 F H Γ σ → Z σ → f Γ = some d → (∀ v F' H', Sub F H F' H' → Dp S.K F' v d → Q v H') → t σ H Q
def ZT (S : Sx) (Z : St → Prop) (e : Expr) (f : En → Option Bool) : Prop :=
  ∃ t : TT, (∀ X, S.Ok X → PT X e t) ∧ ∀ Γ σ H0 F H Q b, EnR S.K H0 F H Γ σ → Z σ → f Γ = some b → (∀ F' H', Sub F H F' H' → Q b H') → t σ H Q
def ZW (S : Sx) (Z : St → Prop) (e : Expr) (f : En → Option Bool) : Prop :=
  ∃ t : TT, (∀ X, S.Ok X → PW X e t) ∧ ∀ Γ σ H0 F H Q b, EnR S.K H0 F H Γ σ → Z σ → f Γ = some b → (∀ F' H', Sub F H F' H' → Q b H') → t σ H Q
def ZSs (S : Sx) (Z : St → Prop) (sts : List Stmt) (T : List Nat) (g : En → Option Out) : Prop :=
  ∃ t : TS, (∀ X, S.Ok X → PSs X sts t) ∧ ∀ F0 H0 F H Γ σ D o, StR S.K F0 H0 F H Γ σ → Z σ → g Γ = some o → EndR S.K F0 H0 T Γ σ H D o → t D σ H
def ZS (S : Sx) (Z : St → Prop) (st : Stmt) (T : List Nat) (g : En → Option Out) : Prop :=
  ∃ t : TS, (∀ X, S.Ok X → PS X st t) ∧ ∀ F0 H0 F H Γ σ D o, StR S.K F0 H0 F H Γ σ → Z σ → g Γ = some o → EndR S.K F0 H0 T Γ σ H D o → t D σ H
theorem SE.z {e : Expr} {f} (h : SE S e f) : ZE S Z e f := by
  obtain ⟨t, a1, a2⟩ := h
  exact ⟨t, a1, fun Γ σ H0 F H Q s E _ => a2 Γ σ H0 F H Q s E⟩
theorem SV.z {e : Expr} {f} (h : SV S e f) : ZV S Z e f := by
  obtain ⟨t, a1, a2⟩ := h
  exact ⟨t, a1, fun Γ σ H0 F H Q s E _ => a2 Γ σ H0 F H Q s E⟩
theorem SS.z {st : Stmt} {T f} (h : SS S st T f) : ZS S Z st T f := by
  obtain ⟨t, a1, a2⟩ := h
  exact ⟨t, a1, fun F0 H0 F H Γ σ D o R _ => a2 F0 H0 F H Γ σ D o R⟩
theorem SSs.z {st : List Stmt} {T f} (h : SSs S st T f) : ZSs S Z st T f := by
  obtain ⟨t, a1, a2⟩ := h
  exact ⟨t, a1, fun F0 H0 F H Γ σ D o R _ => a2 F0 H0 F H Γ σ D o R⟩
theorem ST.z {e : Expr} {f} (h : ST S e f) : ZT S Z e f := by
  obtain ⟨t, a1, a2⟩ := h
  exact ⟨t, a1, fun Γ σ H0 F H Q s E _ => a2 Γ σ H0 F H Q s E⟩
theorem ZE.v {e : Expr} {f : En → Option Sl} (h : ZE S Z e f) : ZV S Z e (dOf f) := by
  obtain ⟨t, h1, h2⟩ := h
  refine ⟨t, h1, fun Γ σ H0 F H Q d E hZ hf k => ?_⟩
  unfold dOf at hf
  cases q : f Γ with
  | none => rw [q] at hf; cases hf
  | some s =>
    rw [q] at hf; cases hf
    refine h2 Γ σ H0 F H Q s E hZ q fun v F' H' u r => ?_
    cases s with
    | fz d => exact k v F' H' u r.1
    | ow xs =>
      obtain ⟨⟨a, vs, rfl, r1, r2, r3⟩, r4⟩ := r
      have ha := r4 xs a rfl rfl
      refine k _ (upd F' a (.lst vs)) H' ⟨u.f.trans (same_new r1), u.h, fun b o e => ?_, fun b o e1 e2 => ?_⟩ (.lst (SqL.of upd_same) (dpAll_mono (same_new r1) r3))
      · by_cases hb : b = a
        · subst hb; rw [upd_same] at e; cases e; exact r2
        · rw [upd_ne hb] at e; exact u.fh b o e
      · rw [upd_ne (ne_of_none e1 ha)]; exact u.o b o e1 e2
theorem ZW.t {e : Expr} {f} (h : ZW S Z e f) : ZT S Z e f := by
  obtain ⟨t, a1, a2⟩ := h
  exact ⟨t, fun X ok => (a1 X ok).pt, a2⟩
end
end
end Bd
namespace Ra
abbrev Rw := Nat → Int
def wdg (r : Rw) : (List Nat → Int) → List Nat → Int
  | F, [] => 0
  | F, c :: cs => r c * F cs - wdg r (fun ds => F (c :: ds)) cs
theorem wdg_zero (r : Rw) : ∀ (cs : List Nat) (F : List Nat → Int), (∀ ds, F ds = 0) → wdg r F cs = 0
  | [], F, h => rfl
  | c :: cs, F, h => by unfold wdg; rw [h, wdg_zero r cs _ fun ds => h (c :: ds)]; simp
theorem wdg_lin (r : Rw) (a b : Int) : ∀ (cs : List Nat) (F G : List Nat → Int), wdg r (fun ds => a * F ds + b * G ds) cs = a * wdg r F cs + b * wdg r G cs
  | [], F, G => by simp [wdg]
  | c :: cs, F, G => by
    unfold wdg
    rw [wdg_lin r a b cs (fun ds => F (c :: ds)) fun ds => G (c :: ds)]
    rw [Int.mul_sub, Int.mul_sub, Int.mul_add]
    have e1 : r c * (a * F cs) = a * (r c * F cs) := by rw [← Int.mul_assoc, Int.mul_comm (r c) a, Int.mul_assoc]
    have e2 : r c * (b * G cs) = b * (r c * G cs) := by rw [← Int.mul_assoc, Int.mul_comm (r c) b, Int.mul_assoc]
    rw [e1, e2]
    omega
theorem wdg_row (a b : Int) (r s : Rw) : ∀ (cs : List Nat) (F : List Nat → Int), wdg (fun x => a * r x + b * s x) F cs = a * wdg r F cs + b * wdg s F cs
  | [], F => by simp [wdg]
  | c :: cs, F => by
    unfold wdg
    rw [wdg_row a b r s cs fun ds => F (c :: ds)]
    rw [Int.mul_sub, Int.mul_sub, Int.add_mul, Int.mul_assoc, Int.mul_assoc]
    omega
theorem wdg_anti (r s : Rw) : ∀ (cs : List Nat) (F : List Nat → Int), wdg r (wdg s F) cs = - wdg s (wdg r F) cs
  | [], F => rfl
  | c :: cs, F => by
    have ih := wdg_anti r s cs fun ds => F (c :: ds)
    have e1 : wdg r (wdg s F) (c :: cs) = r c * wdg s F cs - wdg r (fun ds => s c * F ds + (-1) * wdg s (fun es => F (c :: es)) ds) cs := by
      show r c * wdg s F cs - wdg r (fun ds => wdg s F (c :: ds)) cs = _
      congr 2
      funext ds
      show s c * F ds - wdg s (fun es => F (c :: es)) ds = _
      omega
    have e2 : wdg s (wdg r F) (c :: cs) = s c * wdg r F cs - wdg s (fun ds => r c * F ds + (-1) * wdg r (fun es => F (c :: es)) ds) cs := by
      show s c * wdg r F cs - wdg s (fun ds => wdg r F (c :: ds)) cs = _
      congr 2
      funext ds
      show r c * F ds - wdg r (fun es => F (c :: es)) ds = _
      omega
    rw [e1, e2, wdg_lin, wdg_lin]
    rw [ih]
    omega
theorem wdg_self (r : Rw) (cs : List Nat) (F : List Nat → Int) : wdg r (wdg r F) cs = 0 := by
  have := wdg_anti r r cs F
  omega
def dt : List Rw → List Nat → Int
  | [] => fun cs => if cs = [] then 1 else 0
  | r :: rs => wdg r (dt rs)
theorem wdg_in : ∀ (A : List Rw) (r : Rw), r ∈ A → ∀ cs, wdg r (dt A) cs = 0
  | b :: A, r, h, cs => by
    show wdg r (wdg b (dt A)) cs = 0
    rcases List.mem_cons.mp h with rfl | h
    · exact wdg_self r cs _
    · rw [wdg_anti, wdg_zero b cs _ fun ds => wdg_in A r h ds]; rfl
theorem wdg_van (u : Rw) : ∀ (C : List Nat) (G : List Nat → Int), (∀ c ∈ C, u c = 0) → wdg u G C = 0
  | [], G, _ => rfl
  | c :: C, G, h => by
    unfold wdg
    rw [h c List.mem_cons_self, wdg_van u C _ fun d hd => h d (List.mem_cons_of_mem _ hd)]; simp
theorem wdg_one (u : Rw) (C : List Nat) (F : List Nat → Int) (x : Nat) (h : ∀ c ∈ C, u c = 0) : wdg u F (x :: C) = u x * F C := by
  unfold wdg
  rw [wdg_van u C _ h]; omega
inductive Cmb (A : List Rw) : Rw → Prop
  | zero : Cmb A fun _ => 0
  | add {u : Rw} {b : Rw} (k : Int) : b ∈ A → Cmb A u → Cmb A fun x => u x + k * b x
theorem Cmb.wdg {A : List Rw} {u : Rw} (h : Cmb A u) (cs : List Nat) : wdg u (dt A) cs = 0 := by
  induction h with
  | zero =>
    have := wdg_row 0 0 (fun _ => 0) (fun _ => 0) cs (dt A)
    simp at this
    exact this
  | @add u b k hb _ ih =>
    have := wdg_row 1 k u b cs (dt A)
    rw [ih, wdg_in A b hb] at this
    have e : (fun x => u x + k * b x) = fun x => 1 * u x + k * b x := by funext x; omega
    rw [e, this]; omega
theorem Cmb.sum {A : List Rw} {u v : Rw} (h : Cmb A u) (h2 : Cmb A v) : Cmb A fun x => u x + v x := by
  induction h2 with
  | zero => simpa using h
  | @add w b k hb _ ih =>
    have := Cmb.add k hb ih
    have e : (fun x => u x + (w x + k * b x)) = fun x => (u x + w x) + k * b x := by funext x; omega
    rw [e]; exact this
theorem Cmb.mul {A : List Rw} {u : Rw} (m : Int) (h : Cmb A u) : Cmb A fun x => m * u x := by
  induction h with
  | zero => simpa using Cmb.zero
  | @add w b k hb _ ih =>
    have := Cmb.add (m * k) hb ih
    have e : (fun x => m * (w x + k * b x)) = fun x => m * w x + (m * k) * b x := by funext x; rw [Int.mul_add, Int.mul_assoc]
    rw [e]; exact this
theorem Cmb.wider {A : List Rw} {b u : Rw} (h : Cmb A u) : Cmb (b :: A) u := by
  induction h with
  | zero => exact .zero
  | add k hb _ ih => exact .add k (List.mem_cons_of_mem _ hb) ih
theorem wdg_cmb {A : List Rw} (b : Rw) : ∀ (ds : List Nat) (G : Nat → List Nat → Int), (∀ es, Cmb A fun x => G x es) → Cmb A fun x => wdg b (G x) ds
  | [], G, _ => Cmb.zero
  | c :: ds, G, h => by
    have ih := wdg_cmb b ds (fun x es => G x (c :: es)) fun es => h (c :: es)
    have h1 := (h ds).mul (b c)
    have h2 := ih.mul (-1)
    have := h1.sum h2
    have e : (fun x => wdg b (G x) (c :: ds)) = fun x => b c * G x ds + -1 * wdg b (fun es => G x (c :: es)) ds := by
      funext x
      show b c * G x ds - wdg b (fun es => G x (c :: es)) ds = _
      omega
    rw [e]; exact this
theorem dt_cmb : ∀ (A : List Rw) (ds : List Nat), Cmb A fun x => dt A (x :: ds)
  | [], ds => by
    have e : (fun x => dt [] (x :: ds)) = fun _ => 0 := by funext x; simp [dt]
    rw [e]; exact .zero
  | b :: A, ds => by
    have h1 : Cmb (b :: A) fun x => wdg b (fun es => dt A (x :: es)) ds := (wdg_cmb b ds (fun x es => dt A (x :: es)) fun es => dt_cmb A es).wider
    have h2 := Cmb.add (dt A ds) (List.mem_cons_self (a := b) (l := A)) (h1.mul (-1))
    have e : (fun x => dt (b :: A) (x :: ds)) = fun x => -1 * wdg b (fun es => dt A (x :: es)) ds + dt A ds * b x := by
      funext x
      show b x * dt A ds - wdg b (fun es => dt A (x :: es)) ds = _
      rw [Int.mul_comm (b x)]
      omega
    rw [e]; exact h2
theorem lft_cmb (A : List Rw) (C : List Nat) (u : Rw) : Cmb A fun x => dt A C * u x - wdg u (dt A) (x :: C) := by
  have h := wdg_cmb u C (fun x es => dt A (x :: es)) fun es => dt_cmb A es
  have e : (fun x => dt A C * u x - wdg u (dt A) (x :: C)) = fun x => wdg u (fun es => dt A (x :: es)) C := by
    funext x
    show dt A C * u x - (u x * dt A C - wdg u (fun es => dt A (x :: es)) C) = _
    rw [Int.mul_comm (dt A C)]
    omega
  rw [e]; exact h
theorem exact {A : List Rw} {C : List Nat} {u v : Rw} {a : Nat} (hD : dt A C ≠ 0) (hu : ∀ c ∈ C, wdg u (dt A) (c :: C) = 0) (hv : ∀ c ∈ C, wdg v (dt A) (c :: C) = 0) (x : Nat) :
    wdg v (dt A) (x :: C) * wdg u (dt A) (a :: C) - wdg u (dt A) (x :: C) * wdg v (dt A) (a :: C) = dt A C * wdg v (wdg u (dt A)) (x :: a :: C) := by
  generalize hF : dt A = F at *
  generalize hDe : F C = D at *
  let u' : Rw := fun y => wdg u F (y :: C)
  let v' : Rw := fun y => wdg v F (y :: C)
  have cu := lft_cmb A C u
  have cv := lft_cmb A C v
  rw [hF, hDe] at cu cv
  have wu : ∀ cs, wdg u' F cs = D * wdg u F cs := fun cs => by
    have h0 := cu.wdg cs
    rw [hF] at h0
    have h1 := wdg_row D (-1) u u' cs F
    have e : (fun x => D * u x - wdg u F (x :: C)) = fun x => D * u x + -1 * u' x := by funext y; show _ = D * u y + -1 * wdg u F (y :: C); omega
    rw [e, h1] at h0
    omega
  have wv : ∀ cs, wdg v' (wdg u F) cs = D * wdg v (wdg u F) cs := fun cs => by
    have h0 : ∀ ds, wdg (fun x => D * v x - wdg v F (x :: C)) F ds = 0 := fun ds => by have := cv.wdg ds; rw [hF] at this; exact this
    have h2 : wdg (fun x => D * v x - wdg v F (x :: C)) (wdg u F) cs = 0 := by rw [wdg_anti, wdg_zero u cs _ h0]; rfl
    have h1 := wdg_row D (-1) v v' cs (wdg u F)
    have e : (fun x => D * v x - wdg v F (x :: C)) = fun x => D * v x + -1 * v' x := by funext y; show _ = D * v y + -1 * wdg v F (y :: C); omega
    rw [e, h1] at h2
    omega
  have key : D * (D * wdg v (wdg u F) (x :: a :: C)) = D * (v' x * u' a - v' a * u' x) := by
    have g1 : ∀ y, wdg u' F (y :: C) = u' y * D := fun y => by rw [wdg_one u' C F y hu, hDe]
    have e1 : wdg v' (wdg u' F) (x :: a :: C) = D * wdg v' (wdg u F) (x :: a :: C) := by
      have e : wdg u' F = fun cs => D * wdg u F cs + 0 * wdg u F cs := by funext cs; rw [wu]; omega
      rw [e, wdg_lin]; omega
    have e2 : wdg v' (wdg u' F) (x :: a :: C) = v' x * (u' a * D) - v' a * (u' x * D) := by
      show v' x * wdg u' F (a :: C) - (v' a * wdg u' F (x :: C) - wdg v' (fun ds => wdg u' F (x :: a :: ds)) C) = _
      rw [g1 a, g1 x, wdg_van v' C _ hv]; omega
    rw [← wv, ← e1, e2, Int.mul_sub, ← Int.mul_assoc, ← Int.mul_assoc, Int.mul_comm (v' x * u' a), Int.mul_comm (v' a * u' x)]
  have k2 := Int.eq_of_mul_eq_mul_left hD key
  show v' x * u' a - u' x * v' a = D * wdg v (wdg u F) (x :: a :: C)
  rw [k2, Int.mul_comm (u' x)]
end Ra
namespace Ra
inductive Sp (P : Rw → Prop) : Rw → Prop
  | base {u : Rw} : P u → Sp P u
  | zero : Sp P fun _ => 0
  | lin (a b : Int) {u v : Rw} : Sp P u → Sp P v → Sp P fun x => a * u x + b * v x
  | div (k : Int) {u : Rw} : k ≠ 0 → (Sp P fun x => k * u x) → Sp P u
theorem Sp.trans {P Q : Rw → Prop} (h : ∀ u, P u → Sp Q u) {v : Rw} (hv : Sp P v) : Sp Q v := by
  induction hv with
  | base q => exact h _ q
  | zero => exact .zero
  | lin a b _ _ i j => exact .lin a b i j
  | div k hk _ i => exact .div k hk i
theorem Sp.mul {P : Rw → Prop} (a : Int) {u : Rw} (h : Sp P u) : Sp P fun x => a * u x := by
  have := Sp.lin a 0 h h
  have e : (fun x => a * u x + 0 * u x) = fun x => a * u x := by funext x; omega
  rw [e] at this; exact this
theorem Sp.sub {P : Rw → Prop} {u v : Rw} (h : Sp P u) (k : Sp P v) : Sp P fun x => u x - v x := by
  have := Sp.lin 1 (-1) h k
  have e : (fun x => 1 * u x + -1 * v x) = fun x => u x - v x := by funext x; omega
  rw [e] at this; exact this
theorem Sp.add {P : Rw → Prop} {u v : Rw} (h : Sp P u) (k : Sp P v) : Sp P fun x => u x + v x := by
  have := Sp.lin 1 1 h k
  have e : (fun x => 1 * u x + 1 * v x) = fun x => u x + v x := by funext x; omega
  rw [e] at this; exact this
def In (l : List Rw) : Rw → Prop := fun u => u ∈ l
def Tri : List Rw → Prop
  | [] => True
  | e :: es => (∃ c, e c ≠ 0 ∧ ∀ f ∈ es, f c = 0) ∧ Tri es
def fn (r : List Int) : Rw := fun x => r.getD x 0
def Rs (T : List (List Int)) : Rw → Prop := fun u => ∃ r ∈ T, u = fn r
def clr (row lead : List Int) (c : Nat) (d : Int) : List Int := List.zipWith (fun a b => (a * lead.getD c 0 - b * row.getD c 0) / d) row lead
structure EInv (B : Nat) (T : List (List Int)) (w col : Nat) (piv rest : List (List Int)) (d : Int) : Prop where
  fm : ∃ (A : List Rw) (C : List Nat), d = dt A C ∧ (A.length = piv.length ∧ C.length = piv.length ∧ ∀ a ∈ A, ∀ x, (a x).natAbs ≤ B) ∧ ∀ r ∈ rest, (∃ o : Rw, (∀ x, (o x).natAbs ≤ B) ∧ ∀ x, fn r x = wdg o (dt A) (x :: C)) ∧ ∀ c ∈ C, fn r c = 0
  ln : piv.length + rest.length = T.length
  d0 : d ≠ 0
  wd : ∀ r ∈ piv ++ rest, r.length = w
  z : ∀ r ∈ rest, ∀ x, x < col → fn r x = 0
  tr : Tri (piv.map fn)
  tv : ∀ l1 e l2, piv.map fn = l1 ++ e :: l2 → ∃ c, c < col ∧ e c ≠ 0 ∧ (∀ f ∈ l2, f c = 0) ∧ ∀ r ∈ rest, fn r c = 0
  s1 : ∀ r ∈ T, Sp (Rs (piv ++ rest)) (fn r)
  s2 : ∀ r ∈ piv ++ rest, Sp (Rs T) (fn r)
theorem tri_of : ∀ (l : List Rw), (∀ l1 e l2, l = l1 ++ e :: l2 → ∃ c, e c ≠ 0 ∧ ∀ f ∈ l2, f c = 0) → Tri l
  | [], _ => trivial
  | e :: l, h => ⟨by obtain ⟨c, h1, h2⟩ := h [] e l rfl; exact ⟨c, h1, h2⟩, tri_of l fun l1 f l2 q => h (e :: l1) f l2 (by rw [q]; rfl)⟩
theorem EInv.start {B : Nat} {T : List (List Int)} {w : Nat} (hw : ∀ r ∈ T, r.length = w) (hB : ∀ r ∈ T, ∀ x, (fn r x).natAbs ≤ B) : EInv B T w 0 [] T 1 :=
  ⟨⟨[], [], rfl, ⟨rfl, rfl, fun a h => nomatch h⟩, fun r hr => ⟨⟨fn r, hB r hr, fun x => by show _ = fn r x * 1 - 0; omega⟩, fun c hc => nomatch hc⟩⟩, Nat.zero_add _, by decide, hw, fun _ _ x hx => absurd hx (Nat.not_lt_zero x), trivial, (fun l1 e l2 h => by cases l1 <;> cases h), fun r hr => .base ⟨r, hr, rfl⟩, fun r hr => .base ⟨r, hr, rfl⟩⟩
theorem clr_fn {row lead : List Int} {c : Nat} {d : Int} (h : row.length = lead.length) (x : Nat) : fn (clr row lead c d) x = (fn row x * fn lead c - fn lead x * fn row c) / d := by
  unfold clr fn
  by_cases hx : x < row.length
  · rw [List.getD, List.getElem?_zipWith, List.getElem?_eq_getElem hx, List.getElem?_eq_getElem (by omega)]
    simp [List.getD, hx, show x < lead.length by omega]
  · have e1 : row.getD x 0 = 0 := by simp [List.getD, List.getElem?_eq_none (Nat.le_of_not_lt hx)]
    have e2 : lead.getD x 0 = 0 := by simp [List.getD, List.getElem?_eq_none (show lead.length ≤ x by omega)]
    rw [e1, e2, List.getD, List.getElem?_eq_none (by rw [List.length_zipWith]; omega)]
    simp
theorem EInv.exact {B : Nat} {T : List (List Int)} {w col : Nat} {piv rest : List (List Int)} {d : Int} (I : EInv B T w col piv rest d) {u v : List Int} (hu : u ∈ rest) (hv : v ∈ rest) (x : Nat) :
    d * fn (clr v u col d) x = fn v x * fn u col - fn u x * fn v col ∧ d ∣ fn v x * fn u col - fn u x * fn v col := by
  have wu := I.wd u (List.mem_append_right _ hu)
  have wv := I.wd v (List.mem_append_right _ hv)
  obtain ⟨A, C, hd, _, hr⟩ := I.fm
  obtain ⟨⟨ou, _, eu⟩, zu⟩ := hr u hu
  obtain ⟨⟨ov, _, ev⟩, zv⟩ := hr v hv
  have ex := Ra.exact (A := A) (C := C) (u := ou) (v := ov) (a := col) (by rw [← hd]; exact I.d0) (fun c hc => by rw [← eu]; exact zu c hc) (fun c hc => by rw [← ev]; exact zv c hc) x
  rw [← ev, ← eu, ← eu, ← ev, ← hd] at ex
  rw [clr_fn (by omega), ex, Int.mul_ediv_cancel_left _ I.d0]
  exact ⟨rfl, ⟨_, rfl⟩⟩
theorem EInv.step {B : Nat} {T : List (List Int)} {w col : Nat} {piv rest : List (List Int)} {d : Int} (I : EInv B T w col piv rest d) {u : List Int} {tl : List (List Int)} (hm : ∀ r, r ∈ rest ↔ r ∈ u :: tl) (hl : rest.length = tl.length + 1) (hp : fn u col ≠ 0) :
    EInv B T w (col + 1) (piv ++ [u]) (tl.map fun v => clr v u col d) (fn u col) := by
  have hu : u ∈ rest := (hm u).mpr List.mem_cons_self
  have htl : ∀ v ∈ tl, v ∈ rest := fun v hv => (hm v).mpr (List.mem_cons_of_mem _ hv)
  have wu := I.wd u (List.mem_append_right _ hu)
  have old : ∀ r, r ∈ piv ++ rest → r ∈ piv ∨ r = u ∨ r ∈ tl := fun r h => by
    rcases List.mem_append.mp h with h | h
    · exact .inl h
    · exact .inr (List.mem_cons.mp ((hm r).mp h))
  have hd0 := I.d0
  refine ⟨?_, by have := I.ln; rw [List.length_append, List.length_singleton, List.length_map]; omega, hp, fun r hr => ?_, fun r hr x hx => ?_, ?_, ?_, fun r hr => ?_, fun r hr => ?_⟩
  · obtain ⟨A, C, hd, ⟨la, lc, ba⟩, hr⟩ := I.fm
    obtain ⟨⟨ou, bu, eu⟩, zu⟩ := hr u hu
    refine ⟨ou :: A, col :: C, by rw [eu]; rfl, ⟨by rw [List.length_append, List.length_cons, List.length_singleton, la], by rw [List.length_append, List.length_cons, List.length_singleton, lc], fun a ha => by
      rcases List.mem_cons.mp ha with rfl | ha
      · exact bu
      · exact ba a ha⟩, fun r hr' => ?_⟩
    obtain ⟨v, hv, rfl⟩ := List.mem_map.mp hr'
    have hv' := htl v hv
    have wv := I.wd v (List.mem_append_right _ hv')
    obtain ⟨⟨ov, bv, ev⟩, zv⟩ := hr v hv'
    refine ⟨⟨ov, bv, fun x => ?_⟩, fun c hc => ?_⟩
    · have ex := Ra.exact (A := A) (C := C) (u := ou) (v := ov) (a := col) (by rw [← hd]; exact hd0) (fun c hc => by rw [← eu]; exact zu c hc) (fun c hc => by rw [← ev]; exact zv c hc) x
      rw [← ev, ← eu, ← eu, ← ev, ← hd] at ex
      rw [clr_fn (by omega), ex, Int.mul_ediv_cancel_left _ hd0]
      rfl
    · rw [clr_fn (by omega)]
      rcases List.mem_cons.mp hc with rfl | hc
      · rw [show fn v c * fn u c - fn u c * fn v c = 0 by rw [Int.mul_comm]; omega]; simp
      · rw [zu c hc, zv c hc]; simp
  · rcases List.mem_append.mp hr with h | h
    · rcases List.mem_append.mp h with h | h
      · exact I.wd r (List.mem_append_left _ h)
      · rw [List.mem_singleton.mp h]; exact wu
    · obtain ⟨v, hv, rfl⟩ := List.mem_map.mp h
      have wv := I.wd v (List.mem_append_right _ (htl v hv))
      unfold clr
      rw [List.length_zipWith]; omega
  · obtain ⟨v, hv, rfl⟩ := List.mem_map.mp hr
    have hv' := htl v hv
    have wv := I.wd v (List.mem_append_right _ hv')
    rw [clr_fn (by omega)]
    rcases Nat.lt_succ_iff_lt_or_eq.mp hx with q | q
    · rw [I.z u hu x q, I.z v hv' x q]; simp
    · rw [q, show fn v col * fn u col - fn u col * fn v col = 0 by rw [Int.mul_comm]; omega]; simp
  · refine tri_of _ fun l1 e l2 h => ?_
    rw [List.map_append, List.map_singleton] at h
    rcases List.append_eq_append_iff.mp h with ⟨a', h1, h2⟩ | ⟨c', h1, h2⟩
    · cases a' with
      | nil =>
        rw [List.nil_append] at h2
        cases h2
        exact ⟨col, hp, fun f hf => nomatch hf⟩
      | cons b bs =>
        exfalso
        have := congrArg List.length h2
        simp at this
    · cases c' with
      | nil =>
        rw [List.nil_append] at h2
        cases h2
        exact ⟨col, hp, fun f hf => nomatch hf⟩
      | cons b bs =>
        rw [List.cons_append] at h2
        cases h2
        obtain ⟨c, _, k1, k2, k3⟩ := I.tv l1 e bs h1
        refine ⟨c, k1, fun f hf => ?_⟩
        rcases List.mem_append.mp hf with q | q
        · exact k2 f q
        · rw [List.mem_singleton.mp q]; exact k3 u hu
  · intro l1 e l2 h
    rw [List.map_append, List.map_singleton] at h
    have cz : ∀ c, (∀ r ∈ rest, fn r c = 0) → ∀ r ∈ tl.map (fun v => clr v u col d), fn r c = 0 := fun c hc r hr => by
      obtain ⟨v, hv, rfl⟩ := List.mem_map.mp hr
      have hv' := htl v hv
      have wv := I.wd v (List.mem_append_right _ hv')
      rw [clr_fn (by omega), hc u hu, hc v hv']; simp
    have last : e = fn u ∧ l2 = [] → ∃ c, c < col + 1 ∧ e c ≠ 0 ∧ (∀ f ∈ l2, f c = 0) ∧ ∀ r ∈ tl.map (fun v => clr v u col d), fn r c = 0 := by
      rintro ⟨rfl, rfl⟩
      refine ⟨col, Nat.lt_succ_self _, hp, (fun f hf => nomatch hf), fun r hr => ?_⟩
      obtain ⟨v, hv, rfl⟩ := List.mem_map.mp hr
      have wv := I.wd v (List.mem_append_right _ (htl v hv))
      rw [clr_fn (by omega), show fn v col * fn u col - fn u col * fn v col = 0 by rw [Int.mul_comm]; omega]; simp
    rcases List.append_eq_append_iff.mp h with ⟨a', h1, h2⟩ | ⟨c', h1, h2⟩
    · cases a' with
      | nil =>
        rw [List.nil_append] at h2
        cases h2
        exact last ⟨rfl, rfl⟩
      | cons b bs =>
        exfalso
        have := congrArg List.length h2
        simp at this
    · cases c' with
      | nil =>
        rw [List.nil_append] at h2
        cases h2
        exact last ⟨rfl, rfl⟩
      | cons b bs =>
        rw [List.cons_append] at h2
        cases h2
        obtain ⟨c, k0, k1, k2, k3⟩ := I.tv l1 e bs h1
        refine ⟨c, by omega, k1, fun f hf => ?_, cz c k3⟩
        rcases List.mem_append.mp hf with q | q
        · exact k2 f q
        · rw [List.mem_singleton.mp q]; exact k3 u hu
  · refine Sp.trans (fun f hf => ?_) (I.s1 r hr)
    obtain ⟨q, hq, rfl⟩ := hf
    have bu : Sp (Rs (piv ++ [u] ++ tl.map fun v => clr v u col d)) (fn u) := .base ⟨u, List.mem_append_left _ (List.mem_append_right _ List.mem_cons_self), rfl⟩
    rcases old q hq with h | rfl | h
    · exact .base ⟨q, List.mem_append_left _ (List.mem_append_left _ h), rfl⟩
    · exact bu
    · have bv : Sp (Rs (piv ++ [u] ++ tl.map fun v => clr v u col d)) (fn (clr q u col d)) := .base ⟨_, List.mem_append_right _ (List.mem_map.mpr ⟨q, h, rfl⟩), rfl⟩
      refine .div (fn u col) hp ?_
      have := Sp.lin d (fn q col) bv bu
      have e : (fun x => fn u col * fn q x) = fun x => d * fn (clr q u col d) x + fn q col * fn u x := by
        funext x
        rw [(I.exact hu (htl q h) x).1, Int.mul_comm (fn q col), Int.mul_comm (fn u col)]
        omega
      rw [e]; exact this
  · have bo : ∀ q, q ∈ rest → Sp (Rs T) (fn q) := fun q hq => I.s2 q (List.mem_append_right _ hq)
    rcases List.mem_append.mp hr with h | h
    · rcases List.mem_append.mp h with h | h
      · exact I.s2 r (List.mem_append_left _ h)
      · rw [List.mem_singleton.mp h]; exact bo u hu
    · obtain ⟨v, hv, rfl⟩ := List.mem_map.mp h
      refine .div d hd0 ?_
      have := Sp.lin (fn u col) (- fn v col) (bo v (htl v hv)) (bo u hu)
      have e : (fun x => d * fn (clr v u col d) x) = fun x => fn u col * fn v x + - fn v col * fn u x := by
        funext x
        rw [(I.exact hu (htl v hv) x).1, Int.mul_comm (fn v x), Int.mul_comm (fn u x), Int.neg_mul]
        omega
      rw [e]; exact this
def fct : Nat → Nat
  | 0 => 1
  | n + 1 => (n + 1) * fct n
theorem wdg_bd {B M : Nat} {r : Rw} (hr : ∀ x, (r x).natAbs ≤ B) : ∀ (n : Nat) (cs : List Nat) (F : List Nat → Int), cs.length = n + 1 → (∀ ds, ds.length = n → (F ds).natAbs ≤ M) → (wdg r F cs).natAbs ≤ (n + 1) * (B * M)
  | n, [], F, h, _ => by simp at h
  | 0, [c], F, _, hF => by
    unfold wdg
    show (r c * F [] - 0).natAbs ≤ _
    have h1 := Nat.mul_le_mul (hr c) (hF [] rfl)
    rw [← Int.natAbs_mul] at h1
    rw [Int.sub_zero]; omega
  | n + 1, c :: d :: cs, F, h, hF => by
    have ih := wdg_bd hr n (d :: cs) (fun ds => F (c :: ds)) (by simpa using h) fun ds hd => hF (c :: ds) (by rw [List.length_cons, hd])
    unfold wdg
    have h1 := Nat.mul_le_mul (hr c) (hF (d :: cs) (by simpa using h))
    rw [← Int.natAbs_mul] at h1
    rw [Nat.succ_mul]
    omega
  | 0, c :: d :: cs, F, h, _ => by simp at h
  | n + 1, [c], F, h, _ => by simp at h
theorem dt_bd {B : Nat} : ∀ (A : List Rw) (cs : List Nat), (∀ a ∈ A, ∀ x, (a x).natAbs ≤ B) → cs.length = A.length → (dt A cs).natAbs ≤ fct A.length * B ^ A.length
  | [], cs, _, h => by
    have : cs = [] := List.length_eq_zero_iff.mp h
    subst this
    exact Nat.le_refl 1
  | a :: A, cs, hA, h => by
    have := wdg_bd (hA a List.mem_cons_self) A.length cs (dt A) h fun ds hd => dt_bd A ds (fun b hb => hA b (List.mem_cons_of_mem _ hb)) hd
    refine Nat.le_trans this ?_
    show _ ≤ (A.length + 1) * fct A.length * B ^ (A.length + 1)
    rw [Nat.pow_succ, Nat.mul_assoc (A.length + 1), Nat.mul_comm (B ^ A.length) B, ← Nat.mul_assoc (fct A.length), Nat.mul_comm (fct A.length) B, Nat.mul_assoc B]
    exact Nat.le_refl _
end Ra
namespace Ra
end Ra
namespace Bd
open PySem L2
noncomputable section
section
variable {S : Sx}
end
end
end Bd
namespace Bd
open PySem L2
noncomputable section
section
variable {S : Sx}
end
end
end Bd
namespace Com
open PySem L2 Bd
noncomputable section
def IsShp (r : List Int) : Prop := r.Pairwise (· ≥ ·) ∧ ∀ x ∈ r, 1 ≤ x
def topI (r : List Int) : Int := (maxOpt r).getD 0
def cnt (r : List Int) (k : Int) : Nat := (r.filter fun x => decide (k ≤ x)).length
def cols (r : List Int) : List Int := (List.range (topI r).toNat).map fun (k : Nat) => (cnt r ((k : Int) + 1) : Int)
def pre (r : List Int) (n : Nat) : Int := (r.take n).sum
theorem topI_ub {r : List Int} {x : Int} (h : x ∈ r) : x ≤ topI r := by
  unfold topI
  cases r with
  | nil => cases h
  | cons a l =>
    obtain ⟨m, e, h1, h2, h3⟩ := foldl_bst l a
    have e0 : maxOpt (a :: l) = some m := e
    rw [e0]
    rcases List.mem_cons.mp h with rfl | h
    · exact h2
    · exact h3 x h
theorem topI_mem {r : List Int} (h : r ≠ []) : topI r ∈ r := by
  unfold topI
  cases r with
  | nil => exact absurd rfl h
  | cons a l =>
    obtain ⟨m, e, h1, h2, h3⟩ := foldl_bst l a
    have e0 : maxOpt (a :: l) = some m := e
    rw [e0]
    rcases h1 with rfl | h1
    · exact List.mem_cons_self
    · exact List.mem_cons_of_mem _ h1
theorem getD_out {l : List Int} {i : Nat} (h : l.length ≤ i) : l.getD i 0 = 0 := by simp [List.getD, List.getElem?_eq_none h]
theorem topI_nil : topI [] = 0 := rfl
theorem cnt_cons (x : Int) (xs : List Int) (k : Int) : cnt (x :: xs) k = (if k ≤ x then 1 else 0) + cnt xs k := by
  unfold cnt
  by_cases h : k ≤ x
  · simp [h, Nat.add_comm]
  · simp [h]
theorem cnt_le (r : List Int) (k : Int) : cnt r k ≤ r.length := List.length_filter_le _ _
theorem cnt_zero {r : List Int} {k : Int} (h : ∀ x ∈ r, x < k) : cnt r k = 0 := by
  unfold cnt
  rw [List.length_eq_zero_iff, List.filter_eq_nil_iff]
  intro x hx
  have := h x hx
  simp; omega
theorem cnt_pos {r : List Int} {k x : Int} (hx : x ∈ r) (h : k ≤ x) : 1 ≤ cnt r k := by
  unfold cnt
  have : x ∈ r.filter fun x => decide (k ≤ x) := List.mem_filter.mpr ⟨hx, by simpa using h⟩
  exact List.length_pos_of_mem this
theorem galois : ∀ {r : List Int}, r.Pairwise (· ≥ ·) → ∀ (i : Nat) (k : Int), 1 ≤ k → (i < cnt r k ↔ k ≤ r.getD i 0)
  | [], _, i, k, hk => by simp [cnt]; omega
  | x :: xs, hp, i, k, hk => by
    rw [List.pairwise_cons] at hp
    rw [cnt_cons]
    by_cases h : k ≤ x
    · rw [if_pos h]
      cases i with
      | zero => simp [h]; omega
      | succ i =>
        have ih := galois hp.2 i k hk
        simp only [List.getD_cons_succ]
        omega
    · rw [if_neg h]
      have z : cnt xs k = 0 := cnt_zero fun y hy => by have := hp.1 y hy; omega
      rw [z]
      cases i with
      | zero => simp; omega
      | succ i =>
        have ih := galois hp.2 i k hk
        rw [z] at ih
        simp only [List.getD_cons_succ]
        omega
theorem cols_len (r : List Int) : (cols r).length = (topI r).toNat := by simp [cols]
theorem IsShp.getD_pos {r : List Int} (h : IsShp r) (i : Nat) : i < r.length ↔ 1 ≤ r.getD i 0 := by
  constructor
  · intro hi
    have := h.2 _ (List.getElem_mem hi)
    simpa [List.getD, hi] using this
  · intro hi
    by_cases q : i < r.length
    · exact q
    · rw [getD_out (by omega)] at hi; omega
theorem IsShp.ext {a b : List Int} (ha : IsShp a) (hb : IsShp b) (h : ∀ i, a.getD i 0 = b.getD i 0) : a = b := by
  have hl : a.length = b.length := by
    have h1 := fun i => ha.getD_pos i
    have h2 := fun i => hb.getD_pos i
    rcases Nat.lt_trichotomy a.length b.length with q | q | q
    · have := (h1 a.length).mpr (by rw [h]; exact (h2 _).mp q); omega
    · exact q
    · have := (h2 b.length).mpr (by rw [← h]; exact (h1 _).mp q); omega
  refine List.ext_getElem hl fun i h1 h2 => ?_
  have := h i
  simpa [List.getD, h1, h2] using this
theorem IsShp.getD_nn {r : List Int} (h : IsShp r) (i : Nat) : 0 ≤ r.getD i 0 := by
  by_cases q : i < r.length
  · have := (h.getD_pos i).mp q; omega
  · rw [getD_out (by omega)]; exact Int.le_refl _
theorem range_min (x : Int) (hx : 0 ≤ x) : ∀ n : Nat, ((List.range n).map fun (k : Nat) => if (k : Int) + 1 ≤ x then (1 : Int) else 0).sum = min x (n : Int)
  | 0 => by simp; omega
  | n + 1 => by
    rw [List.range_succ, List.map_append, List.sum_append, range_min x hx n]
    by_cases h : (n : Int) + 1 ≤ x
    · simp [h]; omega
    · simp [h]; omega
theorem sum_map_add {α : Type} (f g : α → Int) : ∀ l : List α, (l.map fun a => f a + g a).sum = (l.map f).sum + (l.map g).sum
  | [] => rfl
  | a :: l => by simp only [List.map_cons, List.sum_cons, sum_map_add f g l]; omega
theorem range_cnt (n : Nat) : ∀ r : List Int, (∀ x ∈ r, 0 ≤ x) → ((List.range n).map fun (k : Nat) => (cnt r ((k : Int) + 1) : Int)).sum = (r.map fun x => min x (n : Int)).sum
  | [], _ => by
    have : ∀ n : Nat, ((List.range n).map fun (k : Nat) => (cnt [] ((k : Int) + 1) : Int)).sum = 0 := fun n => by
      induction n with
      | zero => rfl
      | succ n ih => rw [List.range_succ, List.map_append, List.sum_append, ih]; rfl
    rw [this]; rfl
  | x :: xs, h => by
    have e : (fun (k : Nat) => (cnt (x :: xs) ((k : Int) + 1) : Int)) = fun (k : Nat) => (if (k : Int) + 1 ≤ x then (1 : Int) else 0) + (cnt xs ((k : Int) + 1) : Int) := by
      funext k
      rw [cnt_cons]
      split <;> simp
    rw [e, sum_map_add, range_min x (h x List.mem_cons_self), range_cnt n xs fun y hy => h y (List.mem_cons_of_mem _ hy)]
    rfl
theorem cols_pre {r : List Int} (h : ∀ x ∈ r, 0 ≤ x) (n : Nat) : pre (cols r) n = (r.map fun x => min x (n : Int)).sum := by
  unfold pre cols
  rw [← List.map_take, List.take_range, range_cnt _ r h]
  congr 1
  apply List.map_congr_left
  intro x hx
  have := topI_ub hx
  omega
theorem cols_sum {r : List Int} (h : ∀ x ∈ r, 0 ≤ x) : (cols r).sum = r.sum := by
  have := cols_pre h (cols r).length
  unfold pre at this
  rw [List.take_length] at this
  rw [this]
  congr 1
  rw [cols_len]
  conv => rhs; rw [← List.map_id r]
  apply List.map_congr_left
  intro x hx
  have := topI_ub hx
  have := h x hx
  simp; omega
theorem IsShp.nn {r : List Int} (h : IsShp r) : ∀ x ∈ r, 0 ≤ x := fun x hx => by have := h.2 x hx; omega
theorem pre_cons (x : Int) (xs : List Int) (n : Nat) : pre (x :: xs) (n + 1) = x + pre xs n := by unfold pre; rw [List.take_succ_cons, List.sum_cons]
theorem pre_zero (r : List Int) : pre r 0 = 0 := by unfold pre; rw [List.take_zero]; rfl
theorem pre_nil (n : Nat) : pre [] n = 0 := by unfold pre; rw [List.take_nil]; rfl
theorem pre_full {r : List Int} {n : Nat} (h : r.length ≤ n) : pre r n = r.sum := by unfold pre; rw [List.take_of_length_le h]
theorem pre_succ (r : List Int) (n : Nat) : pre r (n + 1) = pre r n + r.getD n 0 := by
  induction r generalizing n with
  | nil => simp [pre_nil]
  | cons x xs ih =>
    cases n with
    | zero => simp [pre_cons, pre_zero]
    | succ n => rw [pre_cons, pre_cons, ih n]; simp; omega
end
end Com
namespace Com
open Bd
noncomputable section
def FUEL : Nat := big 1000
end
end Com
namespace Com
open PySem L2 Bd
noncomputable section
end
end Com
namespace Com
open PySem L2 Bd
noncomputable section
def g_places_of_both : En → Option Out :=
  (oSeq (oRet (vListRange (dOf (callD pMax2 (aCons (dOf (callD pLen (aCons (gSl 0) aNil))) (aCons (dOf (callD pLen (aCons (gSl 1) aNil))) aNil))))))
  oNil)
def m_places_of_both : List PyData → Option Sl := mirror 2 g_places_of_both
theorem sum_nn : ∀ {s : List Int}, (∀ x ∈ s, 0 ≤ x) → 0 ≤ s.sum
  | [], _ => Int.le_refl _
  | x :: xs, h => by
    have := h x List.mem_cons_self
    have := sum_nn (s := xs) fun y hy => h y (List.mem_cons_of_mem _ hy)
    rw [List.sum_cons]; omega
theorem e_pMax2 {i j : Int} : pMax2 [.int i, .int j] = some (.fz (.int (if j > i then j else i))) := id rfl
theorem places_spec (a b : List PyData) (ha : a.length < 1000) (hb : b.length < 1000) : m_places_of_both [.list a, .list b] = some (.ow (nums (ups (max a.length b.length)))) := by
  unfold m_places_of_both mirror g_places_of_both startE
  simp only [List.map_cons, List.map_nil, List.length_cons, List.length_nil, List.replicate, List.cons_append, List.nil_append, List.getElem?_cons_zero, List.getElem?_cons_succ, List.set_cons_succ, List.set_cons_zero, Nat.reduceSub, Nat.zero_add, Nat.reduceAdd, Option.map_some, Option.map_none, Option.bind_some, if_true, List.length_map, List.length_range, e_setE0, e_setES, e_dOf, e_fzOf, e_fz, e_ow, e_gSl0, e_gSlS, e_gFz0, e_gFzS, e_kC, e_aNil, e_aCons, e_dLst, e_dTup, e_b2, e_pI, e_pAddI, e_pAddL, e_callD, e_bOf, e_bNot, e_bTru, e_truB, e_bAnd, e_bOr, e_vAnd, e_bYes, e_pLenL, e_pLenT, e_pAbs, e_pListOf, e_pIxL, e_pIxT, e_vIsi, e_iLst, e_iEnm, e_gNm, e_oNil, e_oSeq, e_oSet, e_oRet, e_oIf, e_oFor, e_oFrz, e_vLc, e_frz0w, e_frz0f, e_frzS, e_wipeN, e_wipeC, e_oRetV, e_oApp, e_oExt, e_iOwn, e_iOwnE, e_gTpl2, e_pEqI, e_pNeI, e_pNeB, e_pEqB, e_vChain, e_vNeg, e_vRev, e_oInt, e_dSl, e_vNot, e_vOr, e_vLc2, e_isiL, e_isiI, e_isiB, e_isBB, e_oPar, e_oAug, e_oRevS, e_vIf, e_gGh, e_vRepL, e_pInt1B, e_oAugIx, e_mUnp, e_mPar2, e_mPar3, e_xTup, e_xLst, e_allN, e_allC, e_mDrp2, e_gTpl3, e_oSwap, e_vCallT, e_xCallO, e_mIns, e_mSetIx, e_vLend, e_flatO, e_flatFB, e_flatFI, e_isB, e_isNotBB, e_oUnp, e_iZp, e_oSetIxM, e_oIns, e_oWhile, e_xPV, e_xP, e_xPB, e_xPI, e_xV, e_xFz, e_x2, e_x2N, e_xB, e_xGix, e_mNil, e_mSeq, e_mIf, e_mRet, e_mSet, e_mGset, e_mGaug, e_mLft, e_mFor, e_mApp, e_gaNil, e_gaV, e_gaG, e_xCallG, Nat.reduceLT, Nat.reduceLeDiff]
  rw [vListRange_nat (n := max a.length b.length) (by simp only [List.map_cons, List.map_nil, List.length_cons, List.length_nil, List.replicate, List.cons_append, List.nil_append, List.getElem?_cons_zero, List.getElem?_cons_succ, List.set_cons_succ, List.set_cons_zero, Nat.reduceSub, Nat.zero_add, Nat.reduceAdd, Option.map_some, Option.map_none, Option.bind_some, if_true, List.length_map, List.length_range, e_setE0, e_setES, e_dOf, e_fzOf, e_fz, e_ow, e_gSl0, e_gSlS, e_gFz0, e_gFzS, e_kC, e_aNil, e_aCons, e_dLst, e_dTup, e_b2, e_pI, e_pAddI, e_pAddL, e_callD, e_bOf, e_bNot, e_bTru, e_truB, e_bAnd, e_bOr, e_vAnd, e_bYes, e_pLenL, e_pLenT, e_pAbs, e_pListOf, e_pIxL, e_pIxT, e_vIsi, e_iLst, e_iEnm, e_gNm, e_oNil, e_oSeq, e_oSet, e_oRet, e_oIf, e_oFor, e_oFrz, e_vLc, e_frz0w, e_frz0f, e_frzS, e_wipeN, e_wipeC, e_oRetV, e_oApp, e_oExt, e_iOwn, e_iOwnE, e_gTpl2, e_pEqI, e_pNeI, e_pNeB, e_pEqB, e_vChain, e_vNeg, e_vRev, e_oInt, e_dSl, e_vNot, e_vOr, e_vLc2, e_isiL, e_isiI, e_isiB, e_isBB, e_oPar, e_oAug, e_oRevS, e_vIf, e_gGh, e_vRepL, e_pInt1B, e_oAugIx, e_mUnp, e_mPar2, e_mPar3, e_xTup, e_xLst, e_allN, e_allC, e_mDrp2, e_gTpl3, e_oSwap, e_vCallT, e_xCallO, e_mIns, e_mSetIx, e_vLend, e_flatO, e_flatFB, e_flatFI, e_isB, e_isNotBB, e_oUnp, e_iZp, e_oSetIxM, e_oIns, e_oWhile, e_xPV, e_xP, e_xPB, e_xPI, e_xV, e_xFz, e_x2, e_x2N, e_xB, e_xGix, e_mNil, e_mSeq, e_mIf, e_mRet, e_mSet, e_mGset, e_mGaug, e_mLft, e_mFor, e_mApp, e_gaNil, e_gaV, e_gaG, e_xCallG, Nat.reduceLT, Nat.reduceLeDiff, e_pMax2]; congr 3; split <;> omega) (by omega)]
  rfl
end
end Com
namespace Com
open PySem L2 Bd TL
noncomputable section
def TOk (n : Nat) (x : Str) : Prop := (tl x).length ≤ n ∧ ∀ c ∈ tl x, c < 0x110000
theorem TOk.mono {m n : Nat} {x : Str} (h : TOk m x) (k : m ≤ n) : TOk n x := ⟨Nat.le_trans h.1 k, h.2⟩
theorem TOk.len {n : Nat} {x : Str} (h : TOk n x) : x.length ≤ n := by rw [len_tl]; exact h.1
theorem TOk.ok {n : Nat} {x : Str} (h : TOk n x) : PyData.strOk x = true := by
  unfold PyData.strOk
  rw [← Array.all_toList, List.all_eq_true]
  intro c hc
  exact decide_eq_true (h.2 c hc)
theorem sum_le {m : Nat} : ∀ {ps : List Str}, (∀ p ∈ ps, TOk m p) → (ps.map (·.length)).sum ≤ ps.length * m
  | [], _ => Nat.zero_le _
  | p :: ps, h => by
    have ih := sum_le (ps := ps) fun q hq => h q (List.mem_cons_of_mem _ hq)
    have := (h p List.mem_cons_self).len
    rw [List.map_cons, List.sum_cons, List.length_cons, Nat.succ_mul]
    omega
theorem forD_range {g : PyData → En → Option En} {body : En → Option Out} {n : Nat} {emb : Nat → PyData} (I : Nat → En → Prop) (h : ∀ k Γ, k < n → I k Γ → ∃ Γ', (g (emb k) Γ).bind body = some (.nx Γ') ∧ I (k + 1) Γ') (Γ : En) (h0 : I 0 Γ) : ∃ Γ', forD g body ((List.range n).map emb) Γ = some (.nx Γ') ∧ I n Γ' := by
  obtain ⟨Γ', h1, k, hk, h2, h3⟩ := forD_inv (g := g) (body := body) emb (fun rest Γ => ∃ k, k ≤ n ∧ rest = (List.range n).drop k ∧ I k Γ) (fun x rest Γ hp => by
    obtain ⟨k, hk, hr, hi⟩ := hp
    have kl : k < n := by
      rcases Nat.lt_or_ge k n with q | q
      · exact q
      · rw [List.drop_of_length_le (by rw [List.length_range]; exact q)] at hr; cases hr
    have hx : x = k := by
      have : ((List.range n).drop k)[0]? = some x := by rw [← hr]; rfl
      rw [List.getElem?_drop, Nat.add_zero, List.getElem?_range kl] at this
      cases this; rfl
    subst hx
    obtain ⟨Γ', a, b⟩ := h x Γ kl hi
    refine ⟨Γ', a, x + 1, kl, ?_, b⟩
    have := congrArg List.tail hr
    rw [List.tail_cons, List.tail_drop] at this
    exact this) (List.range n) Γ ⟨0, Nat.zero_le _, rfl, h0⟩
  have : k = n := by
    have := congrArg List.length h2
    rw [List.length_nil, List.length_drop, List.length_range] at this
    omega
  subst this
  exact ⟨Γ', h1, h3⟩
end
end Com
namespace Tb
open PySem L2 Bd Ra
open Com hiding g_law_row m_law_row
noncomputable section
theorem iR2_nat {f g : En → Option PyData} {Γ : En} {a b : Nat} (h1 : f Γ = some (.int (a : Int))) (h2 : g Γ = some (.int (b : Int))) (ha : a ≤ 1000000) (h : b ≤ 1000000) : iR2 f g Γ = some ((List.range (b - a)).map fun (k : Nat) => PyData.int ((a + k : Nat) : Int)) := by
  have e62 : (big (2 ^ 62) : Int) = 4611686018427387904 := by rw [big_eq]; decide
  unfold iR2
  rw [h1, h2]
  dsimp only
  rw [if_pos (by rw [e62]; omega)]
  unfold rngD
  rw [show ((b : Int) - (a : Int)).toNat = b - a by omega]
  congr 1
theorem cut_take (xs : List PyData) (k : Nat) : cutD xs none (some (k : Int)) = xs.take k := by
  unfold cutD
  rw [HT.sIx_none, HT.sIx_nat, List.drop_zero, Nat.sub_zero]
  by_cases h : k ≤ xs.length
  · rw [Nat.min_eq_left h]
  · rw [Nat.min_eq_right (by omega), List.take_of_length_le (Nat.le_refl _), List.take_of_length_le (by omega)]
end
end Tb
namespace Bd
open PySem L2
noncomputable section
section
variable {S : Sx} {i : Nat}
def WX (S : Sx) (i : Nat) (e : Expr) (f : En → List PyData → Option (Bool × List PyData)) : Prop :=
  ∃ t : TT, (∀ X, S.Ok X → PW X e t) ∧ ∀ Γ σ H0 F H Q a g b g', EnR S.K H0 F H Γ σ → Gh S.K H0 F H Γ σ i a g → f Γ g = some (b, g') →
    (∀ F' H' vs', SubX a F H F' H' → H' a = some (.lst vs') → DpAll S.K F' vs' g' → Q b H') → t σ H Q
theorem WX.t {e : Expr} {f} (h : WX S i e f) : TX S i e f := by
  obtain ⟨t, a1, a2⟩ := h
  exact ⟨t, fun X ok => (a1 X ok).pt, a2⟩
end
end
end Bd
namespace Ra
def gcs (r : List Int) : Nat := r.foldr (fun x g => Nat.gcd x.natAbs g) 0
theorem gcs_dvd : ∀ (r : List Int), ∀ x ∈ r, gcs r ∣ x.natAbs
  | y :: r, x, h => by
    show Nat.gcd y.natAbs (gcs r) ∣ _
    rcases List.mem_cons.mp h with rfl | h
    · exact Nat.gcd_dvd_left ..
    · exact Nat.dvd_trans (Nat.gcd_dvd_right ..) (gcs_dvd r x h)
theorem gcs_all {p N : Nat} : ∀ (r : List Int), (∀ x ∈ r, p ∣ N * x.natAbs) → p ∣ N * gcs r
  | [], _ => by show p ∣ N * 0; simp
  | y :: r, h => by
    show p ∣ N * Nat.gcd y.natAbs (gcs r)
    rw [← Nat.gcd_mul_left]
    exact Nat.dvd_gcd (h y List.mem_cons_self) (gcs_all r fun x hx => h x (List.mem_cons_of_mem _ hx))
theorem prim_le {r : List Int} (hg : gcs r = 1) {N p : Int} (hN : N ≠ 0) {M : Nat → Int} (h : ∀ x, N * fn r x = p * M x) (hp : p ≠ 0) (x : Nat) : (fn r x).natAbs ≤ (M x).natAbs := by
  have d : p.natAbs ∣ N.natAbs * gcs r := gcs_all r fun y hy => by
    obtain ⟨i, hi⟩ := List.mem_iff_getElem?.mp hy
    have e : fn r i = y := by unfold fn; rw [List.getD, hi]; rfl
    rw [← e, ← Int.natAbs_mul, h i, Int.natAbs_mul]
    exact Nat.dvd_mul_right ..
  rw [hg, Nat.mul_one] at d
  obtain ⟨t, ht⟩ := d
  have e := congrArg Int.natAbs (h x)
  rw [Int.natAbs_mul, Int.natAbs_mul, ht, Nat.mul_assoc] at e
  have e2 := Nat.eq_of_mul_eq_mul_left (by omega) e
  have t0 : t ≠ 0 := fun z => by rw [z] at ht; omega
  rw [← e2]
  exact Nat.le_mul_of_pos_left _ (by omega)
def lsn (r : List Int) : List Int := r.map (· / ((max 1 (gcs r) : Nat) : Int))
theorem lsn_fn (r : List Int) (x : Nat) : ((max 1 (gcs r) : Nat) : Int) * fn (lsn r) x = fn r x := by
  unfold lsn fn
  rw [List.getD, List.getElem?_map, List.getD]
  cases q : r[x]? with
  | none => simp
  | some y =>
    simp only [Option.map_some, Option.getD_some]
    have hd := gcs_dvd r y (List.mem_of_getElem? q)
    refine Int.mul_ediv_cancel' ?_
    by_cases h : gcs r = 0
    · rw [h]; simp
    · rw [show max 1 (gcs r) = gcs r by omega]
      exact Int.ofNat_dvd_left.mpr hd
theorem gcs_mul (k : Nat) : ∀ (r : List Int), gcs (r.map fun x => (k : Int) * x) = k * gcs r
  | [] => rfl
  | y :: r => by
    show Nat.gcd ((k : Int) * y).natAbs (gcs (r.map fun x => (k : Int) * x)) = k * Nat.gcd y.natAbs (gcs r)
    rw [gcs_mul k r, Int.natAbs_mul, Int.natAbs_natCast, Nat.gcd_mul_left]
theorem lsn_prim {r : List Int} (h : gcs r ≠ 0) : gcs (lsn r) = 1 := by
  have e : r = (lsn r).map fun x => ((gcs r : Nat) : Int) * x := by
    apply List.ext_getElem?
    intro i
    rw [List.getElem?_map]
    unfold lsn
    rw [List.getElem?_map]
    cases q : r[i]? with
    | none => rfl
    | some y =>
      have := lsn_fn r i
      rw [show max 1 (gcs r) = gcs r by omega] at this
      have e1 : fn r i = y := by unfold fn; rw [List.getD, q]; rfl
      have e2 : fn (lsn r) i = y / ((max 1 (gcs r) : Nat) : Int) := by unfold fn lsn; rw [List.getD, List.getElem?_map, q]; rfl
      rw [e1, e2] at this
      simp only [Option.map_some]
      rw [this]
  have e3 := congrArg gcs e
  rw [gcs_mul] at e3
  exact Nat.eq_of_mul_eq_mul_left (Nat.pos_of_ne_zero h) (by omega)
theorem gcs_nil {r : List Int} (h : gcs r = 0) (x : Nat) : fn r x = 0 := by
  unfold fn
  rw [List.getD]
  cases q : r[x]? with
  | none => rfl
  | some y =>
    have := gcs_dvd r y (List.mem_of_getElem? q)
    rw [h] at this
    have := Nat.eq_zero_of_zero_dvd this
    show y = 0
    omega
def Ln (F : List Nat → Int) (u o : Rw) : Prop := ∃ q p : Int, q ≠ 0 ∧ p ≠ 0 ∧ ∀ cs, q * wdg u F cs = p * wdg o F cs
theorem Ln.self (F : List Nat → Int) (o : Rw) : Ln F o o := ⟨1, 1, by decide, by decide, fun _ => rfl⟩
theorem wdg_mul (r : Rw) (a : Int) (F : List Nat → Int) (cs : List Nat) : wdg r (fun ds => a * F ds) cs = a * wdg r F cs := by
  have := wdg_lin r a 0 cs F F
  have e : (fun ds => a * F ds + 0 * F ds) = fun ds => a * F ds := by funext ds; omega
  rw [e] at this; omega
theorem Ln.more {F : List Nat → Int} {u o : Rw} (h : Ln F u o) (b : Rw) : Ln (wdg b F) u o := by
  obtain ⟨q, p, q0, p0, e⟩ := h
  refine ⟨q, p, q0, p0, fun cs => ?_⟩
  rw [wdg_anti u b, wdg_anti o b, Int.mul_neg, Int.mul_neg, ← wdg_mul, ← wdg_mul, funext e]
theorem Ln.neg {F : List Nat → Int} {u o : Rw} (h : Ln F u o) : Ln (fun ds => -1 * F ds) u o := by
  obtain ⟨q, p, q0, p0, e⟩ := h
  refine ⟨q, p, q0, p0, fun cs => ?_⟩
  rw [wdg_mul, wdg_mul]
  have := e cs
  rw [← Int.mul_assoc, ← Int.mul_assoc, Int.mul_comm q, Int.mul_comm p, Int.mul_assoc, Int.mul_assoc, this]
theorem Ln.out {F : List Nat → Int} {u o : Rw} (h : Ln F u o) (cs : List Nat) : wdg u (wdg o F) cs = 0 := by
  obtain ⟨q, p, q0, p0, e⟩ := h
  have : q * wdg u (wdg o F) cs = 0 := by
    rw [wdg_anti u o, Int.mul_neg, ← wdg_mul, funext e, wdg_mul, wdg_self]; simp
  exact (Int.mul_eq_zero.mp this).resolve_left q0
theorem Ln.step {F : List Nat → Int} {u o l b : Rw} (h : Ln F u o) (hl : Ln F l b) {a c g : Int} (ha : a ≠ 0) (hg : g ≠ 0) {v : Rw} (hv : ∀ x, g * v x = a * u x + c * l x) : Ln (wdg b F) v o := by
  obtain ⟨q, p, q0, p0, e⟩ := h.more b
  refine ⟨g * q, a * p, Int.mul_ne_zero hg q0, Int.mul_ne_zero ha p0, fun cs => ?_⟩
  have e1 : g * wdg v (wdg b F) cs = a * wdg u (wdg b F) cs := by
    have w1 := wdg_row a c u l cs (wdg b F)
    rw [← funext hv, hl.out, Int.mul_zero, Int.add_zero] at w1
    have w2 := wdg_row g 0 v v cs (wdg b F)
    have e : (fun x => g * v x + 0 * v x) = fun x => g * v x := by funext x; omega
    rw [e] at w2
    omega
  rw [Int.mul_comm g q, Int.mul_assoc, e1, ← Int.mul_assoc, Int.mul_comm q a, Int.mul_assoc, e, Int.mul_assoc]
theorem Ln.scale {F G : List Nat → Int} {u o : Rw} (h : Ln F u o) {s : Int} (e : ∀ cs, G cs = s * F cs) : Ln G u o := by
  obtain ⟨q, p, q0, p0, e'⟩ := h
  refine ⟨q, p, q0, p0, fun cs => ?_⟩
  rw [funext e, wdg_mul, wdg_mul, ← Int.mul_assoc, ← Int.mul_assoc, Int.mul_comm q, Int.mul_comm p, Int.mul_assoc, Int.mul_assoc, e']
abbrev Kp := List (Nat × List Int)
def lk (K : Kp) (j : Nat) : Option (List Int) := (K.find? fun p => p.1 == j).map (·.2)
def As (K : Kp) (og : Nat → Rw) : Nat → List Rw
  | 0 => []
  | j + 1 => match lk K j with
    | some _ => og j :: As K og j
    | none => As K og j
def Cs (K : Kp) : Nat → List Nat
  | 0 => []
  | j + 1 => match lk K j with
    | some _ => j :: Cs K j
    | none => Cs K j
theorem Cs_lt {K : Kp} : ∀ {j c : Nat}, c ∈ Cs K j → c < j
  | 0, c, h => nomatch h
  | j + 1, c, h => by
    unfold Cs at h
    split at h
    · rcases List.mem_cons.mp h with rfl | h
      · omega
      · have := Cs_lt h; omega
    · have := Cs_lt h; omega
theorem As_len (K : Kp) (og : Nat → Rw) : ∀ j, (As K og j).length = (Cs K j).length ∧ (As K og j).length ≤ j
  | 0 => ⟨rfl, Nat.le_refl _⟩
  | j + 1 => by
    have := As_len K og j
    unfold As Cs
    cases lk K j with
    | none => exact ⟨this.1, Nat.le_succ_of_le this.2⟩
    | some l => simp only [List.length_cons]; omega
theorem As_mem {K : Kp} {og : Nat → Rw} {a : Rw} : ∀ {j : Nat}, a ∈ As K og j → ∃ i, a = og i
  | 0, h => nomatch h
  | j + 1, h => by
    unfold As at h
    split at h
    · rcases List.mem_cons.mp h with h | h
      · exact ⟨j, h⟩
      · exact As_mem h
    · exact As_mem h
def Pr (B : Nat) (u : List Int) : Prop := gcs u ≤ 1 ∨ ∀ x, (fn u x).natAbs ≤ B
structure SI (B : Nat) (T : List (List Int)) (w : Nat) (K : Kp) (og : Nat → Rw) : Prop where
  ld : ∀ p ∈ K, p.2.length = w ∧ p.1 < w ∧ fn p.2 p.1 ≠ 0 ∧ ∀ x, x < p.1 → fn p.2 x = 0
  nd : (K.map (·.1)).Nodup
  ob : ∀ j x, (og j x).natAbs ≤ B
  ln : ∀ j l, lk K j = some l → Ln (dt (As K og j)) (fn l) (og j)
  pr : ∀ p ∈ K, Pr B p.2
  s2 : ∀ p ∈ K, Sp (Rs T) (fn p.2)
theorem lk_mem {K : Kp} {j : Nat} {l : List Int} (h : lk K j = some l) : (j, l) ∈ K := by
  unfold lk at h
  cases q : K.find? fun p => p.1 == j with
  | none => rw [q] at h; exact nomatch h
  | some p =>
    rw [q] at h
    have e1 : p.1 = j := by have := List.find?_some q; simpa using this
    have e2 : p.2 = l := by simpa using h
    have := List.mem_of_find?_eq_some q
    rw [← e1, ← e2]; exact this
theorem lk_none {K : Kp} {j : Nat} (h : lk K j = none) : ∀ p ∈ K, p.1 ≠ j := fun p hp e => by
  unfold lk at h
  rw [Option.map_eq_none_iff, List.find?_eq_none] at h
  exact h p hp (by simp [e])
theorem SI.d0 {B : Nat} {T : List (List Int)} {w : Nat} {K : Kp} {og : Nat → Rw} (I : SI B T w K og) : ∀ j, dt (As K og j) (Cs K j) ≠ 0
  | 0 => by show (if ([] : List Nat) = [] then (1 : Int) else 0) ≠ 0; decide
  | j + 1 => by
    have ih := I.d0 j
    unfold As Cs
    cases q : lk K j with
    | none => exact ih
    | some l =>
      obtain ⟨_, _, l0, lz⟩ := I.ld _ (lk_mem q)
      obtain ⟨a, p, a0, p0, e⟩ := I.ln j l q
      have := e (j :: Cs K j)
      rw [wdg_one _ _ _ _ fun c hc => lz c (Cs_lt hc)] at this
      intro z
      have z' : wdg (og j) (dt (As K og j)) (j :: Cs K j) = 0 := z
      rw [z', Int.mul_zero] at this
      exact Int.mul_ne_zero a0 (Int.mul_ne_zero l0 ih) this
theorem SI.bd {B M : Nat} {T : List (List Int)} {w : Nat} {K : Kp} {og : Nat → Rw} (I : SI B T w K og) {j : Nat} {u : List Int} {o : Rw} (hu : Ln (dt (As K og j)) (fn u) o) (hz : ∀ x, x < j → fn u x = 0) (ho : ∀ x, (o x).natAbs ≤ B) (hp : Pr B u) (hM : ∀ k, k ≤ j + 1 → fct k * B ^ k ≤ M) (x : Nat) : (fn u x).natAbs ≤ M := by
  rcases hp with hp | hp
  · by_cases g0 : gcs u = 0
    · rw [gcs_nil g0]; exact Nat.zero_le _
    · obtain ⟨a, p, a0, p0, e⟩ := hu
      have h1 : ∀ x, (a * dt (As K og j) (Cs K j)) * fn u x = p * wdg o (dt (As K og j)) (x :: Cs K j) := fun x => by
        have := e (x :: Cs K j)
        rw [wdg_one _ _ _ _ fun c hc => hz c (Cs_lt hc)] at this
        rw [← this, Int.mul_assoc, Int.mul_comm (fn u x)]
      refine Nat.le_trans (prim_le (by omega) (Int.mul_ne_zero a0 (I.d0 j)) h1 p0 x) ?_
      have ⟨l1, l2⟩ := As_len K og j
      refine Nat.le_trans (dt_bd (B := B) (o :: As K og j) (x :: Cs K j) (fun b hb y => ?_) (by simp [l1])) (hM _ (by simp; omega))
      rcases List.mem_cons.mp hb with rfl | hb
      · exact ho y
      · obtain ⟨i, rfl⟩ := As_mem hb
        exact I.ob i y
  · refine Nat.le_trans (hp x) ?_
    have := hM 1 (by omega)
    have e : fct 1 = 1 := by decide
    rw [e, Nat.pow_one, Nat.one_mul] at this
    exact this
def upd (og : Nat → Rw) (j : Nat) (o : Rw) : Nat → Rw := fun i => if i = j then o else og i
theorem lk_app {K : Kp} {j : Nat} {u : List Int} (h : lk K j = none) (i : Nat) : lk (K ++ [(j, u)]) i = if i = j then some u else lk K i := by
  unfold lk
  rw [List.find?_append]
  by_cases e : i = j
  · subst e
    unfold lk at h
    rw [Option.map_eq_none_iff] at h
    rw [h, if_pos rfl]
    simp
  · rw [if_neg e]
    cases q : K.find? fun p => p.1 == i with
    | some p => simp
    | none => simp [show ¬ j = i from fun z => e z.symm]
theorem As_lo {K : Kp} {og : Nat → Rw} {j : Nat} {u : List Int} {o : Rw} (h : lk K j = none) : ∀ i, i ≤ j → As (K ++ [(j, u)]) (upd og j o) i = As K og i
  | 0, _ => rfl
  | i + 1, hi => by
    unfold As
    rw [lk_app h, if_neg (by omega), As_lo h i (by omega), show upd og j o i = og i from if_neg (by omega)]
theorem As_hi {K : Kp} {og : Nat → Rw} {j : Nat} {u : List Int} {o : Rw} (h : lk K j = none) : ∀ n, ∃ s : Int, ∀ cs, dt (As (K ++ [(j, u)]) (upd og j o) (j + 1 + n)) cs = s * wdg o (dt (As K og (j + 1 + n))) cs
  | 0 => ⟨1, fun cs => by
    show dt (As (K ++ [(j, u)]) (upd og j o) (j + 1)) cs = 1 * wdg o (dt (As K og (j + 1))) cs
    have e1 : As (K ++ [(j, u)]) (upd og j o) (j + 1) = o :: As K og j := by
      rw [As, lk_app h, if_pos rfl, As_lo h j (Nat.le_refl _), show upd og j o j = o from if_pos rfl]
    have e2 : As K og (j + 1) = As K og j := by
      rw [As, h]
    rw [e1, e2, Int.one_mul]; rfl⟩
  | n + 1 => by
    obtain ⟨s, ih⟩ := As_hi (og := og) (u := u) (o := o) h n
    have e0 : lk (K ++ [(j, u)]) (j + 1 + n) = lk K (j + 1 + n) := by rw [lk_app h, if_neg (by omega)]
    cases q : lk K (j + 1 + n) with
    | none =>
      refine ⟨s, fun cs => ?_⟩
      have e1 : As (K ++ [(j, u)]) (upd og j o) (j + 1 + (n + 1)) = As (K ++ [(j, u)]) (upd og j o) (j + 1 + n) := by
        rw [← Nat.add_assoc, As, e0, q]
      have e2 : As K og (j + 1 + (n + 1)) = As K og (j + 1 + n) := by rw [← Nat.add_assoc, As, q]
      rw [e1, e2]; exact ih cs
    | some l =>
      refine ⟨-s, fun cs => ?_⟩
      have e1 : As (K ++ [(j, u)]) (upd og j o) (j + 1 + (n + 1)) = og (j + 1 + n) :: As (K ++ [(j, u)]) (upd og j o) (j + 1 + n) := by
        rw [← Nat.add_assoc, As, e0, q, show upd og j o (j + 1 + n) = og (j + 1 + n) from if_neg (by omega)]
      have e2 : As K og (j + 1 + (n + 1)) = og (j + 1 + n) :: As K og (j + 1 + n) := by rw [← Nat.add_assoc, As, q]
      rw [e1, e2]
      show wdg (og (j + 1 + n)) (dt (As (K ++ [(j, u)]) (upd og j o) (j + 1 + n))) cs = -s * wdg o (wdg (og (j + 1 + n)) (dt (As K og (j + 1 + n)))) cs
      rw [funext ih, wdg_mul, wdg_anti (og (j + 1 + n)) o, Int.mul_neg, Int.neg_mul]
theorem SI.add {B : Nat} {T : List (List Int)} {w : Nat} {K : Kp} {og : Nat → Rw} (I : SI B T w K og) {j : Nat} {u : List Int} {o : Rw} (h : lk K j = none) (hw : u.length = w) (hj : j < w) (h0 : fn u j ≠ 0) (hz : ∀ x, x < j → fn u x = 0) (hu : Ln (dt (As K og j)) (fn u) o) (ho : ∀ x, (o x).natAbs ≤ B) (hp : Pr B u) (hs : Sp (Rs T) (fn u)) : SI B T w (K ++ [(j, u)]) (upd og j o) := by
  refine ⟨fun p q => ?_, ?_, fun i x => ?_, fun i l q => ?_, fun p q => ?_, fun p q => ?_⟩
  · rcases List.mem_append.mp q with q | q
    · exact I.ld p q
    · rw [List.mem_singleton.mp q]; exact ⟨hw, hj, h0, hz⟩
  · rw [List.map_append, List.nodup_append]
    refine ⟨I.nd, by simp, fun a ha b hb => ?_⟩
    obtain ⟨p, hp, rfl⟩ := List.mem_map.mp ha
    rw [show b = j by simpa using hb]
    exact lk_none h p hp
  · unfold upd
    split
    · exact ho x
    · exact I.ob i x
  · rw [lk_app h] at q
    by_cases e : i = j
    · rw [if_pos e] at q
      cases q
      rw [e, As_lo h j (Nat.le_refl _), show upd og j o j = o from if_pos rfl]
      exact hu
    · rw [if_neg e] at q
      have := I.ln i l q
      rw [show upd og j o i = og i from if_neg e]
      by_cases lt : i < j
      · rw [As_lo h i (by omega)]; exact this
      · obtain ⟨s, es⟩ := As_hi (og := og) (u := u) (o := o) h (i - (j + 1))
        rw [show j + 1 + (i - (j + 1)) = i by omega] at es
        exact (this.more o).scale es
  · rcases List.mem_append.mp q with q | q
    · exact I.pr p q
    · rw [List.mem_singleton.mp q]; exact hp
  · rcases List.mem_append.mp q with q | q
    · exact I.s2 p q
    · rw [List.mem_singleton.mp q]; exact hs
def crs (l u : List Int) (j : Nat) : List Int := List.zipWith (fun a b => l.getD j 0 * a - u.getD j 0 * b) u l
theorem crs_fn {l u : List Int} {j : Nat} (h : u.length = l.length) (x : Nat) : fn (crs l u j) x = fn l j * fn u x + (-fn u j) * fn l x := by
  unfold crs
  by_cases hx : x < u.length
  · have e : fn (List.zipWith (fun a b => l.getD j 0 * a - u.getD j 0 * b) u l) x = l.getD j 0 * fn u x - u.getD j 0 * fn l x := by
      unfold fn
      rw [List.getD, List.getElem?_zipWith, List.getElem?_eq_getElem hx, List.getElem?_eq_getElem (by omega)]
      simp [List.getD, hx, show x < l.length by omega]
    rw [e, Int.neg_mul]
    show fn l j * fn u x - fn u j * fn l x = _
    omega
  · have z : ∀ r : List Int, r.length ≤ x → fn r x = 0 := fun r hr => by unfold fn; simp [List.getD, List.getElem?_eq_none hr]
    rw [z _ (by rw [List.length_zipWith]; omega), z u (by omega), z l (by omega)]; simp
theorem lsn_len (r : List Int) : (lsn r).length = r.length := by unfold lsn; rw [List.length_map]
structure UI (B : Nat) (T : List (List Int)) (w : Nat) (K : Kp) (og : Nat → Rw) (j : Nat) (u : List Int) (o : Rw) : Prop where
  wd : u.length = w
  z : ∀ x, x < j → fn u x = 0
  ln : Ln (dt (As K og j)) (fn u) o
  ob : ∀ x, (o x).natAbs ≤ B
  pr : Pr B u
  sp : Sp (Rs T) (fn u)
section
variable {B : Nat} {T : List (List Int)} {w : Nat} {K : Kp} {og : Nat → Rw} {j : Nat} {u : List Int} {o : Rw}
theorem UI.pass (U : UI B T w K og j u o) (h : fn u j = 0) : UI B T w K og (j + 1) u o := by
  refine ⟨U.wd, fun x hx => ?_, ?_, U.ob, U.pr, U.sp⟩
  · by_cases e : x = j
    · rw [e]; exact h
    · exact U.z x (by omega)
  · rw [As]
    cases lk K j with
    | none => exact U.ln
    | some l => exact U.ln.more (og j)
theorem UI.step (U : UI B T w K og j u o) (I : SI B T w K og) {l : List Int} (h : lk K j = some l) : UI B T w K og (j + 1) (lsn (crs l u j)) o := by
  obtain ⟨lw, _, l0, lz⟩ := I.ld _ (lk_mem h)
  have cl : (crs l u j).length = w := by unfold crs; rw [List.length_zipWith, U.wd, lw, Nat.min_self]
  have e : ∀ x, ((max 1 (gcs (crs l u j)) : Nat) : Int) * fn (lsn (crs l u j)) x = fn l j * fn u x + (-fn u j) * fn l x := fun x => by rw [lsn_fn, crs_fn (by rw [U.wd, lw])]
  have g0 : ((max 1 (gcs (crs l u j)) : Nat) : Int) ≠ 0 := by omega
  refine ⟨by rw [lsn_len, cl], fun x hx => ?_, ?_, U.ob, ?_, ?_⟩
  · have := e x
    have r : fn l j * fn u x + (-fn u j) * fn l x = 0 := by
      by_cases q : x = j
      · rw [q, Int.neg_mul, Int.mul_comm (fn l j)]; omega
      · rw [U.z x (by omega), lz x (by show x < j; omega)]; simp
    rw [r] at this
    exact (Int.mul_eq_zero.mp this).resolve_left g0
  · rw [As, h]
    exact U.ln.step (I.ln j l h) l0 g0 e
  · by_cases q : gcs (crs l u j) = 0
    · refine .inr fun x => ?_
      have := e x
      rw [← crs_fn (by rw [U.wd, lw]), gcs_nil q] at this
      rw [(Int.mul_eq_zero.mp this).resolve_left g0]
      exact Nat.zero_le _
    · exact .inl (by rw [lsn_prim q]; exact Nat.le_refl _)
  · refine .div _ g0 ?_
    rw [funext e]
    exact .lin _ _ U.sp (I.s2 _ (lk_mem h))
theorem UI.back (U : UI B T w K og j u o) (I : SI B T w K og) {l : List Int} (h : lk K j = some l) {P : Rw → Prop} (h1 : Sp P (fn (lsn (crs l u j)))) (h2 : Sp P (fn l)) : Sp P (fn u) := by
  obtain ⟨lw, _, l0, lz⟩ := I.ld _ (lk_mem h)
  refine .div (fn l j) l0 ?_
  have := Sp.lin ((max 1 (gcs (crs l u j)) : Nat) : Int) (fn u j) h1 h2
  have e : (fun x => ((max 1 (gcs (crs l u j)) : Nat) : Int) * fn (lsn (crs l u j)) x + fn u j * fn l x) = fun x => fn l j * fn u x := by
    funext x
    rw [lsn_fn, crs_fn (by rw [U.wd]; exact lw.symm), Int.neg_mul]
    omega
  rw [e] at this
  exact this
end
theorem SI.nil (B : Nat) (T : List (List Int)) (w : Nat) : SI B T w [] fun _ _ => 0 :=
  ⟨fun _ h => (nomatch h), List.nodup_nil, fun _ _ => Nat.zero_le _, fun _ _ h => (nomatch h), fun _ h => (nomatch h), fun _ h => nomatch h⟩
theorem UI.start {B : Nat} {T : List (List Int)} {w : Nat} {K : Kp} {og : Nat → Rw} {r : List Int} (hr : r ∈ T) (hw : r.length = w) (hB : ∀ x, (fn r x).natAbs ≤ B) : UI B T w K og 0 r (fn r) :=
  ⟨hw, fun _ h => (nomatch h), .self _ _, hB, .inr hB, .base ⟨r, hr, rfl⟩⟩
end Ra
namespace Bd
open PySem L2
noncomputable section
section
variable {S : Sx}
end
end
end Bd
namespace Tb
open PySem L2 Bd
noncomputable def FUEL : Nat := big (2 ^ 8001)
end Tb
namespace Bd
open PySem L2
noncomputable section
abbrev Gd := List (Int × PyData)
inductive DpKv (K : PySem.W.Frag) (F : Hp) : List (Key × V) → Gd → Prop where
  | nil : DpKv K F [] []
  | cons {k : Int} {v : V} {d : PyData} {kvs : List (Key × V)} {g : Gd} : Dp K F v d → DpKv K F kvs g → DpKv K F ((.inl k, v) :: kvs) ((k, d) :: g)
theorem dpKv_mono {K : PySem.W.Frag} {F F' : Hp} (s : Same F F') : ∀ {kvs : List (Key × V)} {g : Gd}, DpKv K F kvs g → DpKv K F' kvs g
  | _, _, .nil => .nil
  | _, _, .cons h t => .cons (dp_mono s h) (dpKv_mono s t)
structure GhD (K : PySem.W.Frag) (H0 F H : Hp) (Γ : En) (σ : St) (i : Nat) (a : Addr) (g : Gd) : Prop where
  si : σ[i]? = some (some (.ref a))
  gi : Γ[i]? = some none
  h0 : H0 a = none
  f0 : F a = none
  hv : ∃ vs, H a = some (.dK vs) ∧ DpKv K F vs g
  ap : ∀ (j : Nat) (xs : List PyData), Γ[j]? = some (some (.ow xs)) → σ[j]? = some (some (.ref a)) → False
section
variable {K : PySem.W.Frag} {F0 H0 F H F' H' : Hp} {Γ : En} {σ : St} {i : Nat} {a : Addr} {g g' : Gd} {vs' : List (Key × V)}
theorem GhD.here (G : GhD K H0 F H Γ σ i a g) : ∃ o, H a = some o := by
  obtain ⟨vs, h, _⟩ := G.hv
  exact ⟨_, h⟩
theorem GhD.next (G : GhD K H0 F H Γ σ i a g) (u : SubX a F H F' H') (hv : H' a = some (.dK vs')) (hd : DpKv K F' vs' g') : GhD K H0 F' H' Γ σ i a g' := by
  obtain ⟨o, h⟩ := G.here
  exact ⟨G.si, G.gi, G.h0, u.o a o h G.f0, ⟨vs', hv, hd⟩, G.ap⟩
end
section
variable {S : Sx} {i : Nat}
def TD (S : Sx) (i : Nat) (e : Expr) (f : En → Gd → Option (Bool × Gd)) : Prop :=
  ∃ t : TT, (∀ X, S.Ok X → PT X e t) ∧ ∀ Γ σ H0 F H Q a g b g', EnR S.K H0 F H Γ σ → GhD S.K H0 F H Γ σ i a g → f Γ g = some (b, g') →
    (∀ F' H' vs', SubX a F H F' H' → H' a = some (.dK vs') → DpKv S.K F' vs' g' → Q b H') → t σ H Q
def xDB (f : En → Option Bool) : En → Gd → Option (Bool × Gd) := fun Γ g => (f Γ).map fun s => (s, g)
theorem ST.d {e : Expr} {f} (h : ST S e f) : TD S i e (xDB f) := by
  obtain ⟨t, a1, a2⟩ := h
  refine ⟨t, a1, fun Γ σ H0 F H Q a g s g' E G hf k => ?_⟩
  unfold xDB at hf
  cases q : f Γ with
  | none => rw [q] at hf; cases hf
  | some s' =>
    rw [q] at hf; cases hf
    obtain ⟨vs, h1, h2⟩ := G.hv
    exact a2 Γ σ H0 F H _ _ E q fun F' H' u => k F' H' vs u.x (u.h _ _ h1) (dpKv_mono u.f h2)
end
inductive OutD where
  | nx (Γ : En) (g : Gd) | rt (s : Sl) (g : Gd) | bk (Γ : En) (g : Gd) | ct (Γ : En) (g : Gd)
section
variable {S : Sx} {i : Nat}
end
section
variable {S : Sx} {i : Nat}
def IXD (S : Sx) (i : Nat) (tg iter : Expr) (f : En → Gd → Option (List PyData × Gd)) : Prop :=
  ∃ wi : TI, (∀ X, S.Ok X → PI X tg iter wi) ∧ ∀ Γ σ H0 F H R a g ds g', EnR S.K H0 F H Γ σ → GhD S.K H0 F H Γ σ i a g → f Γ g = some (ds, g') →
    (∀ J F' H' vs', SubX a F H F' H' → H' a = some (.dK vs') → DpKv S.K F' vs' g' → ItR S.K F' F' J ds → R J H') → wi σ H R
def xDI (f : En → Option (List PyData)) : En → Gd → Option (List PyData × Gd) := fun Γ g => (f Γ).map fun s => (s, g)
theorem SIV.d {tg iter : Expr} {f} (h : SIV S tg iter f) : IXD S i tg iter (xDI f) := by
  obtain ⟨t, a1, a2⟩ := h
  refine ⟨t, a1, fun Γ σ H0 F H R a g ds g' E G hf k => ?_⟩
  unfold xDI at hf
  cases q : f Γ with
  | none => rw [q] at hf; cases hf
  | some s' =>
    rw [q] at hf; cases hf
    obtain ⟨vs, h1, h2⟩ := G.hv
    exact a2 Γ σ H0 F H _ _ E q fun J F' H' u it => k J F' H' vs u.x (u.h _ _ h1) (dpKv_mono u.f h2) it
end
end
end Bd
namespace Bd
open PySem L2
noncomputable section
def gget (g : Gd) (k : Int) : Option PyData := (g.find? fun p => decide (p.1 = k)).map (·.2)
section
variable {K : PySem.W.Frag} {F : Hp}
theorem DpKv.length : ∀ {kvs : List (Key × V)} {g : Gd}, DpKv K F kvs g → kvs.length = g.length
  | _, _, .nil => rfl
  | _, _, .cons _ t => by rw [List.length_cons, List.length_cons, t.length]
theorem inl_iff {a b : Int} : ((Sum.inl a : Key) = Sum.inl b) ↔ a = b := ⟨fun h => by cases h; rfl, fun h => by rw [h]⟩
theorem DpKv.val (k : Int) : ∀ {kvs : List (Key × V)} {g : Gd}, DpKv K F kvs g → (valV kvs (.inl k) = none ∧ gget g k = none) ∨ ∃ v d, valV kvs (.inl k) = some v ∧ gget g k = some d ∧ Dp K F v d
  | _, _, .nil => .inl ⟨rfl, rfl⟩
  | _, _, .cons (k := k') (v := v) (d := d) h t => by
    by_cases e : k' = k
    · refine .inr ⟨v, d, valV_pos (by rw [e]), ?_, h⟩
      unfold gget
      rw [List.find?_cons_of_pos (by simp [e])]; rfl
    · have e1 : ¬ ((Sum.inl k' : Key) = Sum.inl k) := fun z => e (inl_iff.mp z)
      rw [valV_neg e1]
      have e2 : ∀ g : Gd, gget ((k', d) :: g) k = gget g k := fun g => by
        unfold gget
        rw [List.find?_cons_of_neg (by simp [e])]
      rw [e2]
      exact t.val k
theorem DpKv.any (k : Int) : ∀ {kvs : List (Key × V)} {g : Gd}, DpKv K F kvs g → (kvs.any fun p => decide (p.1 = (Sum.inl k : Key))) = g.any fun p => decide (p.1 = k)
  | _, _, .nil => rfl
  | _, _, .cons (k := k') h t => by
    rw [List.any_cons, List.any_cons, t.any k]
    congr 1
    exact decide_eq_decide.mpr inl_iff
theorem DpKv.map (k : Int) {v : V} {d : PyData} (hv : Dp K F v d) : ∀ {kvs : List (Key × V)} {g : Gd}, DpKv K F kvs g → DpKv K F (kvs.map fun p => if p.1 = (Sum.inl k : Key) then (p.1, v) else p) (g.map fun p => if p.1 = k then (p.1, d) else p)
  | _, _, .nil => .nil
  | _, _, .cons (k := k') h t => by
    rw [List.map_cons, List.map_cons]
    by_cases e : k' = k
    · rw [if_pos (inl_iff.mpr e), if_pos e]
      exact .cons hv (t.map k hv)
    · rw [if_neg (fun z => e (inl_iff.mp z)), if_neg e]
      exact .cons h (t.map k hv)
end
section
variable {S : Sx} {i : Nat}
theorem GhD.wrt {K : PySem.W.Frag} {F0 H0 F H : Hp} {Γ : En} {σ : St} {a : Addr} {l : Gd} {us : List (Key × V)} (R : StR K F0 H0 F H Γ σ) (G : GhD K H0 F H Γ σ i a l) : SubX a F H F (upd H a (.dK us)) := by
  refine ⟨.refl _, fun b o n e => by rw [upd_ne n]; exact e, fun b o e => ?_, fun b o _ e => e⟩
  rw [upd_ne (fun z => by subst z; rw [G.f0] at e; cases e)]
  exact R.en.fh b o e
end
end
end Bd
namespace Bd
open PySem L2
noncomputable section
section
variable {S : Sx} {i : Nat}
def WD (S : Sx) (i : Nat) (e : Expr) (f : En → Gd → Option (Bool × Gd)) : Prop :=
  ∃ t : TT, (∀ X, S.Ok X → PW X e t) ∧ ∀ Γ σ H0 F H Q a g b g', EnR S.K H0 F H Γ σ → GhD S.K H0 F H Γ σ i a g → f Γ g = some (b, g') →
    (∀ F' H' vs', SubX a F H F' H' → H' a = some (.dK vs') → DpKv S.K F' vs' g' → Q b H') → t σ H Q
theorem WD.t {e : Expr} {f} (h : WD S i e f) : TD S i e f := by
  obtain ⟨t, a1, a2⟩ := h
  exact ⟨t, fun X ok => (a1 X ok).pt, a2⟩
def spK (K : PySem.W.Frag) (n : Nat) (m : List PyData → Option Gd) : L2.Sp := fun vs H Q _ =>
  ∃ F ds g, Same F H ∧ ds.length = n ∧ DpAll K F vs ds ∧ m ds = some g ∧ ∀ a F' H' kvs, Sub F H F' H' → H a = none → F' a = none → H' a = some (.dK kvs) → DpKv K F' kvs g → Q (.ref a) H'
structure FnK (S : Sx) (x : Str) (ps : List Str) (m : List PyData → Option Gd) : Prop where
  ex : ∃ (f : Addr) (fd : FuncData) (j : Nat), FnOk S.P S.w S.K S.mg S.base CX0 j f fd ps (spK S.K ps.length m) ∧ j ≤ S.k ∧ S.mg x = some (.ref f) ∧ PySem.W.keepIn S.K (.ref f) = true ∧ Binds S.K fd ps []
theorem GhD.new {K : PySem.W.Frag} {F0 H0 F H : Hp} {Γ : En} {σ : St} {p : Addr} (R : StR K F0 H0 F H Γ σ) (hi : Γ[i]? = some none) (hp : H p = none) :
    StR K F0 H0 F (upd H p (.dK [])) Γ (σ.set i (some (.ref p))) ∧ GhD K H0 F (upd H p (.dK [])) Γ (σ.set i (some (.ref p))) i p [] := by
  have ln := R.en.ln
  have il : i < Γ.length := (List.getElem?_eq_some_iff.mp hi).1
  have w : Sub F H F (upd H p (.dK [])) := .newO R.en.fh hp
  have R' := R.mono w
  have ne : ∀ {j : Nat} {s : Sl}, Γ[j]? = some (some s) → i ≠ j := fun {j s} h z => by subst z; rw [hi] at h; cases h
  have st : ∀ {j : Nat}, i ≠ j → (σ.set i (some (V.ref p)))[j]? = σ[j]? := fun ne => List.getElem?_set_ne ne
  refine ⟨⟨⟨R'.en.fh, fun j s hj => ?_, fun j zs c h1 h2 => ?_, fun j m zs ws c h1 h2 h3 h4 => ?_, by rw [List.length_set]; exact ln⟩, R'.su⟩, ⟨by rw [List.getElem?_set_self (by omega)], hi, R.su.h.free hp, ?_, ⟨[], upd_same, .nil⟩, fun j zs h1 h2 => ?_⟩⟩
  · rw [st (ne hj)]; exact R'.en.sl j s hj
  · rw [st (ne h1)] at h2; exact R'.en.nw j zs c h1 h2
  · rw [st (ne h1)] at h3; rw [st (ne h2)] at h4; exact R'.en.ds j m zs ws c h1 h2 h3 h4
  · exact R.en.fh.free hp
  · rw [st (ne h1)] at h2
    obtain ⟨v', w1, c, us, e3, _, e4, _⟩ := R.en.sl j _ h1
    rw [h2] at w1; cases w1; cases e3
    rw [hp] at e4; cases e4
end
end
end Bd
namespace Bd
open PySem PySem.Spec PyProof.Rows
section
variable {prog : Program} {w : World} {A : Around} {E : Value → Shared → Prop} {s : Shared}
end
end Bd
namespace Bd
open PySem L2
section
variable {X : Cx}
end
noncomputable section
section
variable {S : Sx} {i : Nat}
theorem DpKv.keys {K : PySem.W.Frag} {F : Hp} : ∀ {kvs : List (Key × V)} {g : Gd}, DpKv K F kvs g → kvs.map (·.1) = (g.map (·.1)).map Sum.inl
  | _, _, .nil => rfl
  | _, _, .cons _ t => by rw [List.map_cons, List.map_cons, List.map_cons, DpKv.keys t]
end
end
end Bd
namespace Bd
open PySem L2
noncomputable section
section
variable {S : Sx} {i : Nat}
end
end
end Bd
namespace Bd
open PySem L2
section
variable {X : Cx}
end
noncomputable section
section
variable {S : Sx}
end
end
end Bd
namespace Bd
open PySem PySem.Spec
section
variable {prog : Program} {w : World} {A : Around} {E : Value → Shared → Prop} {s : Shared} {K : Type} [DecidableEq K] {knd : HeapKind prog w K}
end
end Bd
namespace Bd
open PySem L2
section
variable {X : Cx} {pins : List (Addr × Obj)} {σ : St} {H : Hp} {s : Shared} {a b : Addr} {kvs : List (List Key × V)} {k : List Key} {A : Around} {E : Value → Shared → Prop}
end
section
variable {X : Cx} {o i : Expr} {pos tpos : Pos} {td ty : TE}
end
end Bd
namespace L2
open PySem PySem.Spec PyProof.Rows Bd
section
variable {prog : Program} {w : World} {A : Around} {R : Result → Shared → Prop} {s : Shared}
end
section
variable {X : Cx} {pins : List (Addr × Obj)} {σ : St} {H : Hp} {s : Shared}
end
section
variable {X : Cx}
end
end L2
namespace Bd
open PySem L2
noncomputable section
def undic : List (PyData × PyData) → Option (List (Int × Int))
  | [] => some []
  | (.tuple [.int a, .int b], .bool true) :: r => (undic r).map ((a, b) :: ·)
  | _ => none
theorem undic_dic : ∀ g : List (Int × Int), undic (dicD g) = some g
  | [] => rfl
  | p :: g => by
    show (undic (dicD g)).map ((p.1, p.2) :: ·) = _
    rw [undic_dic g]; rfl
def pInD : PyData → PyData → Option Sl
  | .tuple [.int a, .int b], .dict kvs => (undic kvs).map fun g => .fz (.bool (decide ((a, b) ∈ g)))
  | _, _ => none
section
variable {S : Sx}
def vDic0 : En → Option PyData := fun _ => some (.dict (dicD []))
end
end
end Bd
namespace Bd
open PySem L2
noncomputable section
abbrev Gt := List (Int × Int)
def DpKt (K : PySem.W.Frag) (F : Hp) (kvs : List (List Key × V)) (g : Gt) : Prop := kvs = dicT g
theorem dpKt_mono {K : PySem.W.Frag} {F F' : Hp} (s : Same F F') {kvs : List (List Key × V)} {g : Gt} (h : DpKt K F kvs g) : DpKt K F' kvs g := h
structure GhT (K : PySem.W.Frag) (H0 F H : Hp) (Γ : En) (σ : St) (i : Nat) (a : Addr) (g : Gt) : Prop where
  si : σ[i]? = some (some (.ref a))
  gi : Γ[i]? = some none
  h0 : H0 a = none
  f0 : F a = none
  hv : ∃ vs, H a = some (.dT vs) ∧ DpKt K F vs g
  ap : ∀ (j : Nat) (xs : List PyData), Γ[j]? = some (some (.ow xs)) → σ[j]? = some (some (.ref a)) → False
section
variable {K : PySem.W.Frag} {F0 H0 F H F' H' : Hp} {Γ : En} {σ : St} {i : Nat} {a : Addr} {g g' : Gt} {vs' : List (List Key × V)}
theorem GhT.here (G : GhT K H0 F H Γ σ i a g) : ∃ o, H a = some o := by
  obtain ⟨vs, h, _⟩ := G.hv
  exact ⟨_, h⟩
theorem GhT.next (G : GhT K H0 F H Γ σ i a g) (u : SubX a F H F' H') (hv : H' a = some (.dT vs')) (hd : DpKt K F' vs' g') : GhT K H0 F' H' Γ σ i a g' := by
  obtain ⟨o, h⟩ := G.here
  exact ⟨G.si, G.gi, G.h0, u.o a o h G.f0, ⟨vs', hv, hd⟩, G.ap⟩
end
section
variable {S : Sx} {i : Nat}
def TDt (S : Sx) (i : Nat) (e : Expr) (f : En → Gt → Option (Bool × Gt)) : Prop :=
  ∃ t : TT, (∀ X, S.Ok X → PT X e t) ∧ ∀ Γ σ H0 F H Q a g b g', EnR S.K H0 F H Γ σ → GhT S.K H0 F H Γ σ i a g → f Γ g = some (b, g') →
    (∀ F' H' vs', SubX a F H F' H' → H' a = some (.dT vs') → DpKt S.K F' vs' g' → Q b H') → t σ H Q
def xTB (f : En → Option Bool) : En → Gt → Option (Bool × Gt) := fun Γ g => (f Γ).map fun s => (s, g)
theorem ST.t1 {e : Expr} {f} (h : ST S e f) : TDt S i e (xTB f) := by
  obtain ⟨t, a1, a2⟩ := h
  refine ⟨t, a1, fun Γ σ H0 F H Q a g s g' E G hf k => ?_⟩
  unfold xTB at hf
  cases q : f Γ with
  | none => rw [q] at hf; cases hf
  | some s' =>
    rw [q] at hf; cases hf
    obtain ⟨vs, h1, h2⟩ := G.hv
    exact a2 Γ σ H0 F H _ _ E q fun F' H' u => k F' H' vs u.x (u.h _ _ h1) (dpKt_mono u.f h2)
end
inductive OutT where
  | nx (Γ : En) (g : Gt) | rt (s : Sl) (g : Gt) | bk (Γ : En) (g : Gt) | ct (Γ : En) (g : Gt)
abbrev TM := En → Gt → Option OutT
section
variable {S : Sx} {i : Nat}
def tNil1 : TM := fun Γ l => some (.nx Γ l)
def tSeq1 (g h : TM) : TM := fun Γ l => match g Γ l with
  | some (.nx Γ' l') => h Γ' l'
  | r => r
def tLft (g : En → Option Out) : TM := fun Γ l => match g Γ with
  | some (.nx Γ') => some (.nx Γ' l)
  | some (.rt s) => some (.rt s l)
  | some (.bk Γ') => some (.bk Γ' l)
  | some (.ct Γ') => some (.ct Γ' l)
  | none => none
def tIf1 (c : En → Gt → Option (Bool × Gt)) (g h : TM) : TM := fun Γ l => match c Γ l with
  | some (true, l') => g Γ l'
  | some (false, l') => h Γ l'
  | none => none
end
section
variable {S : Sx} {i : Nat}
def IXT (S : Sx) (i : Nat) (tg iter : Expr) (f : En → Gt → Option (List PyData × Gt)) : Prop :=
  ∃ wi : TI, (∀ X, S.Ok X → PI X tg iter wi) ∧ ∀ Γ σ H0 F H R a g ds g', EnR S.K H0 F H Γ σ → GhT S.K H0 F H Γ σ i a g → f Γ g = some (ds, g') →
    (∀ J F' H' vs', SubX a F H F' H' → H' a = some (.dT vs') → DpKt S.K F' vs' g' → ItR S.K F' F' J ds → R J H') → wi σ H R
def xTI (f : En → Option (List PyData)) : En → Gt → Option (List PyData × Gt) := fun Γ g => (f Γ).map fun s => (s, g)
theorem SIV.t1 {tg iter : Expr} {f} (h : SIV S tg iter f) : IXT S i tg iter (xTI f) := by
  obtain ⟨t, a1, a2⟩ := h
  refine ⟨t, a1, fun Γ σ H0 F H R a g ds g' E G hf k => ?_⟩
  unfold xTI at hf
  cases q : f Γ with
  | none => rw [q] at hf; cases hf
  | some s' =>
    rw [q] at hf; cases hf
    obtain ⟨vs, h1, h2⟩ := G.hv
    exact a2 Γ σ H0 F H _ _ E q fun J F' H' u it => k J F' H' vs u.x (u.h _ _ h1) (dpKt_mono u.f h2) it
end
end
end Bd
namespace Bd
open PySem L2
noncomputable section
section
variable {S : Sx} {i : Nat}
def xTIn (fk : En → Option PyData) : En → Gt → Option (Bool × Gt) := fun Γ g => match fk Γ with
  | some (.tuple [.int a, .int b]) => some (decide ((a, b) ∈ g), g)
  | _ => none
theorem GhT.wrt {K : PySem.W.Frag} {F0 H0 F H : Hp} {Γ : En} {σ : St} {a : Addr} {l : Gt} {us : List (List Key × V)} (R : StR K F0 H0 F H Γ σ) (G : GhT K H0 F H Γ σ i a l) : SubX a F H F (upd H a (.dT us)) := by
  refine ⟨.refl _, fun b o n e => by rw [upd_ne n]; exact e, fun b o e => ?_, fun b o _ e => e⟩
  rw [upd_ne (fun z => by subst z; rw [G.f0] at e; cases e)]
  exact R.en.fh b o e
def tDel (fk : En → Option PyData) : TM := fun Γ g => match fk Γ with
  | some (.tuple [.int a, .int b]) => if (a, b) ∈ g then some (.nx Γ (g.filter fun p => decide (p ≠ (a, b)))) else none
  | _ => none
def tPut2 (fa fb : En → Option PyData) : TM := fun Γ g => match fa Γ, fb Γ with
  | some (.int a), some (.int b) => if (a, b) ∉ g ∧ g.length < cap then some (.nx Γ (g ++ [(a, b)])) else none
  | _, _ => none
def whileT (f : En → Gt → Option (Bool × Gt)) (b : TM) : Nat → TM
  | 0, _, _ => none
  | n + 1, Γ, l => match f Γ l with
    | some (true, l1) => (match b Γ l1 with
      | some (.nx Γ2 l2) => whileT f b n Γ2 l2
      | some (.ct Γ2 l2) => whileT f b n Γ2 l2
      | some (.bk Γ2 l2) => some (.nx Γ2 l2)
      | some (.rt s l2) => some (.rt s l2)
      | none => none)
    | some (false, l1) => some (.nx Γ l1)
    | none => none
end
end
end Bd
namespace Bd
open PySem L2
noncomputable section
section
variable {S : Sx} {i : Nat}
def jRet : En → Gt → Option Gt := fun _ l => some l
def jSeq (g : TM) (h : En → Gt → Option Gt) : En → Gt → Option Gt := fun Γ l => match g Γ l with
  | some (.nx Γ' l') => h Γ' l'
  | _ => none
theorem GhT.new {K : PySem.W.Frag} {F0 H0 F H : Hp} {Γ : En} {σ : St} {p : Addr} (l : Gt) (R : StR K F0 H0 F H Γ σ) (hi : Γ[i]? = some none) (hp : H p = none) :
    StR K F0 H0 F (upd H p (.dT (dicT l))) Γ (σ.set i (some (.ref p))) ∧ GhT K H0 F (upd H p (.dT (dicT l))) Γ (σ.set i (some (.ref p))) i p l := by
  have ln := R.en.ln
  have il : i < Γ.length := (List.getElem?_eq_some_iff.mp hi).1
  have w : Sub F H F (upd H p (.dT (dicT l))) := .newO R.en.fh hp
  have R' := R.mono w
  have ne : ∀ {j : Nat} {s : Sl}, Γ[j]? = some (some s) → i ≠ j := fun {j s} h z => by subst z; rw [hi] at h; cases h
  have st : ∀ {j : Nat}, i ≠ j → (σ.set i (some (V.ref p)))[j]? = σ[j]? := fun ne => List.getElem?_set_ne ne
  refine ⟨⟨⟨R'.en.fh, fun j s hj => ?_, fun j zs c h1 h2 => ?_, fun j m zs ws c h1 h2 h3 h4 => ?_, by rw [List.length_set]; exact ln⟩, R'.su⟩, ⟨by rw [List.getElem?_set_self (by omega)], hi, R.su.h.free hp, ?_, ⟨_, upd_same, rfl⟩, fun j zs h1 h2 => ?_⟩⟩
  · rw [st (ne hj)]; exact R'.en.sl j s hj
  · rw [st (ne h1)] at h2; exact R'.en.nw j zs c h1 h2
  · rw [st (ne h1)] at h3; rw [st (ne h2)] at h4; exact R'.en.ds j m zs ws c h1 h2 h3 h4
  · exact R.en.fh.free hp
  · rw [st (ne h1)] at h2
    obtain ⟨v', w1, c, us, e3, _, e4, _⟩ := R.en.sl j _ h1
    rw [h2] at w1; cases w1; cases e3
    rw [hp] at e4; cases e4
def mirrorJ (n i jf ja : Nat) (g : En → Gt → Option Gt) : List PyData → Option Sl := fun ds => match (startE n ds)[i]?, (startE n ds)[ja]?, (startE n ds)[jf]? with
  | some none, some none, some (some (.fz (.dict kvs))) => (undic kvs).bind fun l => if l.Nodup ∧ l.length < cap then (g (startE n ds) l).map fun g' => .fz (.dict (dicD g')) else none
  | _, _, _ => none
end
end
end Bd
namespace Fl
abbrev Arc := Nat × Nat × Int
abbrev Mk := Nat → Option Int
def up {α : Type} (f : Nat → α) (v : Nat) (x : α) : Nat → α := fun y => if y = v then x else f y
theorem up_self {α : Type} (f : Nat → α) (v : Nat) (x : α) : up f v x v = x := if_pos rfl
theorem up_ne {α : Type} {f : Nat → α} {v y : Nat} {x : α} (h : y ≠ v) : up f v x y = f y := if_neg h
def bet (M : Mk) (a : Arc) : Bool := match M a.1 with
  | none => false
  | some m => match M a.2.1 with
    | none => true
    | some k => decide (k < m + a.2.2)
def wrt (M : Mk) (a : Arc) : Option Int := (M a.1).map (· + a.2.2)
structure Bs where
  M : Mk
  A : Nat → Option Nat
  mv : Bool
def rlx (s : Bs) (a : Arc) : Bs := if bet s.M a = true then ⟨up s.M a.2.1 (wrt s.M a), up s.A a.2.1 (some a.1), true⟩ else s
def pass (L : List Arc) (s : Bs) : Bs := L.foldl rlx { s with mv := false }
def walk (L : List Arc) : Nat → Bs → Option Bs
  | 0, _ => none
  | k + 1, s => if s.mv = true then walk L k (pass L s) else some s
structure BI (L : List Arc) (S U : Nat) (π : Nat → Int) (s : Bs) (τ : Nat → Nat) (T : Nat) : Prop where
  s0 : s.M S = some 0
  sa : s.A S = none
  hi : ∀ v m, s.M v = some m → 0 ≤ m ∧ m ≤ π v - π S
  ah : ∀ v m, v ≠ S → s.M v = some m → ∃ u w k, (u, v, w) ∈ L ∧ s.A v = some u ∧ s.M u = some k ∧ m ≤ k + w ∧ (τ u < τ v ∨ m < k + w)
  no : ∀ v, s.M v = none → s.A v = none
  tt : ∀ v, τ v < T
def Feas (L : List Arc) (π : Nat → Int) : Prop := ∀ a ∈ L, π a.1 + a.2.2 ≤ π a.2.1
section
variable {L : List Arc} {S U : Nat} {π : Nat → Int} {s : Bs} {τ : Nat → Nat} {T : Nat}
theorem bet_some {M : Mk} {a : Arc} (h : bet M a = true) : ∃ m, M a.1 = some m ∧ wrt M a = some (m + a.2.2) ∧ ∀ k, M a.2.1 = some k → k < m + a.2.2 := by
  unfold bet at h
  cases q : M a.1 with
  | none => rw [q] at h; cases h
  | some m =>
    refine ⟨m, rfl, by unfold wrt; rw [q]; rfl, fun k hk => ?_⟩
    rw [q, hk] at h
    exact of_decide_eq_true h
theorem bet_not {M : Mk} {a : Arc} {m : Int} (h : ¬ bet M a = true) (h1 : M a.1 = some m) : ∃ k, M a.2.1 = some k ∧ m + a.2.2 ≤ k := by
  unfold bet at h
  rw [h1] at h
  cases q : M a.2.1 with
  | none => rw [q] at h; exact absurd rfl h
  | some k =>
    rw [q] at h
    refine ⟨k, rfl, ?_⟩
    have : ¬ k < m + a.2.2 := fun z => h (decide_eq_true z)
    omega
theorem BI.rlx (I : BI L S U π s τ T) (fe : Feas L π) {a : Arc} (ha : a ∈ L) (ne : a.1 ≠ a.2.1) (low : a.2.2 < 0 → s.M a.2.1 ≠ none) : ∃ τ' T', BI L S U π (Fl.rlx s a) τ' T' := by
  by_cases h : bet s.M a = true
  · obtain ⟨m, h1, h2, h3⟩ := bet_some h
    have e : Fl.rlx s a = ⟨up s.M a.2.1 (wrt s.M a), up s.A a.2.1 (some a.1), true⟩ := if_pos h
    rw [e, h2]
    have hm := I.hi _ _ h1
    have hf := fe a ha
    have nS : a.2.1 ≠ S := fun z => by
      have := h3 0 (by rw [z]; exact I.s0)
      rw [z] at hf
      omega
    refine ⟨up τ a.2.1 T, T + 1, ⟨?_, ?_, fun v k hk => ?_, fun v k hv hk => ?_, fun v hv => ?_, fun v => ?_⟩⟩
    · show up _ _ _ S = _
      rw [up_ne (Ne.symm nS)]; exact I.s0
    · show up _ _ _ S = _
      rw [up_ne (Ne.symm nS)]; exact I.sa
    · by_cases q : v = a.2.1
      · subst q
        rw [show (⟨up s.M a.2.1 (some (m + a.2.2)), up s.A a.2.1 (some a.1), true⟩ : Bs).M a.2.1 = some (m + a.2.2) from up_self ..] at hk
        cases hk
        refine ⟨?_, by omega⟩
        by_cases w0 : a.2.2 < 0
        · cases q2 : s.M a.2.1 with
          | none => exact absurd q2 (low w0)
          | some k0 =>
            have := h3 k0 q2
            have := (I.hi _ _ q2).1
            omega
        · omega
      · rw [show (⟨up s.M a.2.1 (some (m + a.2.2)), up s.A a.2.1 (some a.1), true⟩ : Bs).M v = s.M v from up_ne q] at hk
        exact I.hi v k hk
    · by_cases q : v = a.2.1
      · subst q
        rw [show (⟨up s.M a.2.1 (some (m + a.2.2)), up s.A a.2.1 (some a.1), true⟩ : Bs).M a.2.1 = some (m + a.2.2) from up_self ..] at hk
        cases hk
        refine ⟨a.1, a.2.2, m, ha, up_self .., ?_, Int.le_refl _, .inl ?_⟩
        · show up _ _ _ a.1 = _
          rw [up_ne ne]; exact h1
        · rw [up_ne ne, up_self]; exact I.tt _
      · rw [show (⟨up s.M a.2.1 (some (m + a.2.2)), up s.A a.2.1 (some a.1), true⟩ : Bs).M v = s.M v from up_ne q] at hk
        obtain ⟨u, w, j, e1, e2, e3, e4, e5⟩ := I.ah v k hv hk
        by_cases qu : u = a.2.1
        · subst qu
          have := h3 j e3
          refine ⟨a.2.1, w, m + a.2.2, e1, ?_, up_self .., by omega, .inr (by omega)⟩
          show up _ _ _ v = _
          rw [up_ne q]; exact e2
        · refine ⟨u, w, j, e1, ?_, ?_, e4, ?_⟩
          · show up _ _ _ v = _
            rw [up_ne q]; exact e2
          · show up _ _ _ u = _
            rw [up_ne qu]; exact e3
          · rw [up_ne qu, up_ne q]; exact e5
    · by_cases q : v = a.2.1
      · subst q
        rw [show (⟨up s.M a.2.1 (some (m + a.2.2)), up s.A a.2.1 (some a.1), true⟩ : Bs).M a.2.1 = some (m + a.2.2) from up_self ..] at hv
        cases hv
      · rw [show (⟨up s.M a.2.1 (some (m + a.2.2)), up s.A a.2.1 (some a.1), true⟩ : Bs).M v = s.M v from up_ne q] at hv
        show up _ _ _ v = _
        rw [up_ne q]; exact I.no v hv
    · by_cases q : v = a.2.1
      · subst q; rw [up_self]; exact Nat.lt_succ_self _
      · rw [up_ne q]; exact Nat.lt_succ_of_lt (I.tt v)
  · have e : Fl.rlx s a = s := if_neg h
    rw [e]
    exact ⟨τ, T, I⟩
theorem rlx_keep {a : Arc} {v : Nat} (h : s.M v ≠ none) : (Fl.rlx s a).M v ≠ none := by
  unfold Fl.rlx
  split
  · next hb =>
    show up _ _ _ v ≠ none
    by_cases q : v = a.2.1
    · subst q
      rw [up_self]
      obtain ⟨m, _, h2, _⟩ := bet_some hb
      rw [h2]; exact fun z => by cases z
    · rw [up_ne q]; exact h
  · exact h
theorem rlx_src (h0 : s.M S = some 0) {v : Nat} : (Fl.rlx s (S, v, 0)).M v ≠ none := by
  unfold Fl.rlx
  split
  · next hb =>
    obtain ⟨m, _, h2, _⟩ := bet_some hb
    show up s.M v (wrt s.M (S, v, 0)) v ≠ none
    rw [up_self, h2]
    exact fun z => by cases z
  · next hb =>
    obtain ⟨k, h1, _⟩ := bet_not hb h0
    rw [h1]; exact fun z => by cases z
def Lows (S : Nat) (L : List Arc) : Prop := ∀ L1 a L2, L = L1 ++ a :: L2 → a.2.2 < 0 → (S, a.2.1, 0) ∈ L1
theorem pass_ok (fe : Feas L π) (ne : ∀ a ∈ L, a.1 ≠ a.2.1) (lo : Lows S L) : ∀ (R P : List Arc) (s : Bs) (τ : Nat → Nat) (T : Nat), L = P ++ R → BI L S U π s τ T → (∀ v, (S, v, 0) ∈ P → s.M v ≠ none) → ∃ τ' T', BI L S U π (R.foldl Fl.rlx s) τ' T'
  | [], _, s, τ, T, _, I, _ => ⟨τ, T, I⟩
  | a :: R, P, s, τ, T, e, I, hp => by
    have ha : a ∈ L := by rw [e]; simp
    obtain ⟨τ1, T1, I1⟩ := I.rlx fe ha (ne a ha) fun w0 => hp _ (lo P a R e w0)
    exact pass_ok fe ne lo R (P ++ [a]) (Fl.rlx s a) τ1 T1 (by rw [e]; simp) I1 fun v hv => by
      rcases List.mem_append.mp hv with hv | hv
      · exact rlx_keep (hp v hv)
      · rw [List.mem_singleton] at hv
        rw [← hv]
        exact rlx_src I.s0
theorem BI.pass (I : BI L S U π s τ T) (fe : Feas L π) (ne : ∀ a ∈ L, a.1 ≠ a.2.1) (lo : Lows S L) : ∃ τ' T', BI L S U π (Fl.pass L s) τ' T' :=
  pass_ok fe ne lo L [] _ τ T rfl ⟨I.s0, I.sa, I.hi, I.ah, I.no, I.tt⟩ fun v hv => nomatch hv
def cost (U : Nat) : Option Int → Nat
  | none => U + 1
  | some m => U - m.toNat
def tot (U N : Nat) (M : Mk) : Nat := ((List.range N).map fun v => cost U (M v)).sum
theorem sum_up {N : Nat} {f f' : Nat → Nat} {v : Nat} (hv : v < N) (h1 : ∀ y, y ≠ v → f' y = f y) (h2 : f' v < f v) : ((List.range N).map f').sum < ((List.range N).map f).sum := by
  induction N with
  | zero => omega
  | succ N ih =>
    rw [List.range_succ, List.map_append, List.map_append, List.sum_append, List.sum_append]
    simp only [List.map_cons, List.map_nil, List.sum_cons, List.sum_nil]
    by_cases q : v = N
    · subst q
      have e : (List.range v).map f' = (List.range v).map f := List.map_congr_left fun y hy => h1 y (by have := List.mem_range.mp hy; omega)
      rw [e]; omega
    · have := ih (by omega)
      have := h1 N (fun z => q z.symm)
      omega
def Bnd (U N : Nat) (s : Bs) : Prop := ∀ v m, s.M v = some m → 0 ≤ m ∧ m ≤ (U : Int)
theorem rlx_tot {N : Nat} {a : Arc} (hN : a.2.1 < N) (hb : Bnd U N s) (hb' : Bnd U N (Fl.rlx s a)) : (Fl.rlx s a = s) ∨ ((Fl.rlx s a).mv = true ∧ tot U N (Fl.rlx s a).M < tot U N s.M) := by
  by_cases h : bet s.M a = true
  · right
    have e : Fl.rlx s a = ⟨up s.M a.2.1 (wrt s.M a), up s.A a.2.1 (some a.1), true⟩ := if_pos h
    refine ⟨by rw [e], ?_⟩
    obtain ⟨m, h1, h2, h3⟩ := bet_some h
    have hv : (Fl.rlx s a).M a.2.1 = some (m + a.2.2) := by rw [e]; show up _ _ _ _ = _; rw [up_self, h2]
    have b1 := hb' _ _ hv
    refine sum_up hN (fun y hy => ?_) ?_
    · show cost U ((Fl.rlx s a).M y) = _
      rw [e]
      show cost U (up _ _ _ y) = _
      rw [up_ne hy]
    · show cost U ((Fl.rlx s a).M a.2.1) < cost U (s.M a.2.1)
      rw [hv]
      cases q : s.M a.2.1 with
      | none => show U - _ < U + 1; omega
      | some k =>
        have := h3 k q
        have := hb _ _ q
        show U - (m + a.2.2).toNat < U - k.toNat
        omega
  · exact .inl (if_neg h)
theorem pass_all {N : Nat} (fe : Feas L π) (ne : ∀ a ∈ L, a.1 ≠ a.2.1) (lo : Lows S L) (hN : ∀ a ∈ L, a.2.1 < N) (hU : ∀ v, π v - π S ≤ (U : Int)) : ∀ (R P : List Arc) (s : Bs) (τ : Nat → Nat) (T : Nat), L = P ++ R → BI L S U π s τ T → (∀ v, (S, v, 0) ∈ P → s.M v ≠ none) →
    ∃ τ' T', BI L S U π (R.foldl Fl.rlx s) τ' T' ∧ ((R.foldl Fl.rlx s = s ∧ ∀ a ∈ R, ¬ bet s.M a = true) ∨ ((R.foldl Fl.rlx s).mv = true ∧ tot U N (R.foldl Fl.rlx s).M < tot U N s.M))
  | [], _, s, τ, T, _, I, _ => ⟨τ, T, I, .inl ⟨rfl, fun a h => nomatch h⟩⟩
  | a :: R, P, s, τ, T, e, I, hp => by
    have ha : a ∈ L := by rw [e]; simp
    obtain ⟨τ1, T1, I1⟩ := I.rlx fe ha (ne a ha) fun w0 => hp _ (lo P a R e w0)
    obtain ⟨τ2, T2, I2, h2⟩ := pass_all (N := N) fe ne lo hN hU R (P ++ [a]) (Fl.rlx s a) τ1 T1 (by rw [e]; simp) I1 fun v hv => by
      rcases List.mem_append.mp hv with hv | hv
      · exact rlx_keep (hp v hv)
      · rw [List.mem_singleton] at hv
        rw [← hv]
        exact rlx_src I.s0
    have bd : ∀ {s : Bs} {τ T}, BI L S U π s τ T → Bnd U N s := fun J v m hm => ⟨(J.hi v m hm).1, Int.le_trans (J.hi v m hm).2 (hU v)⟩
    refine ⟨τ2, T2, I2, ?_⟩
    show (R.foldl Fl.rlx (Fl.rlx s a) = s ∧ _) ∨ _
    rcases rlx_tot (N := N) (hN a ha) (bd I) (bd I1) with q | ⟨q1, q2⟩
    · rw [q] at h2 ⊢
      rcases h2 with ⟨h3, h4⟩ | h3
      · refine .inl ⟨h3, fun b hb => ?_⟩
        rcases List.mem_cons.mp hb with rfl | hb
        · intro z
          have e1 : Fl.rlx s b = ⟨up s.M b.2.1 (wrt s.M b), up s.A b.2.1 (some b.1), true⟩ := if_pos z
          obtain ⟨m, _, z2, z3⟩ := bet_some z
          rw [q] at e1
          have e2 : s.M b.2.1 = some (m + b.2.2) := by
            have := congrArg (fun t => t.M b.2.1) e1
            simp only at this
            rw [this, up_self, z2]
          have := z3 _ e2
          omega
        · exact h4 b hb
      · exact .inr (by rw [List.foldl_cons, q]; exact h3)
    · rcases h2 with ⟨h3, _⟩ | ⟨h3, h4⟩
      · exact .inr (by rw [List.foldl_cons, h3]; exact ⟨q1, q2⟩)
      · exact .inr ⟨h3, Nat.lt_trans h4 q2⟩
structure BW (L : List Arc) (S : Nat) (π : Nat → Int) (M : Mk) (A : Nat → Option Nat) (τ : Nat → Nat) : Prop where
  s0 : M S = some 0
  sa : A S = none
  hi : ∀ v m, M v = some m → 0 ≤ m ∧ m ≤ π v - π S
  ti : ∀ v m, v ≠ S → M v = some m → ∃ u w k, (u, v, w) ∈ L ∧ A v = some u ∧ M u = some k ∧ m = k + w ∧ τ u < τ v
  fx : ∀ a ∈ L, ∀ m, M a.1 = some m → ∃ k, M a.2.1 = some k ∧ m + a.2.2 ≤ k
  no : ∀ v, M v = none → A v = none
theorem walk_ok {N : Nat} (fe : Feas L π) (ne : ∀ a ∈ L, a.1 ≠ a.2.1) (lo : Lows S L) (hN : ∀ a ∈ L, a.2.1 < N) (hU : ∀ v, π v - π S ≤ (U : Int)) : ∀ (k : Nat) (s : Bs) (τ : Nat → Nat) (T : Nat), BI L S U π s τ T → s.mv = true → tot U N s.M + 2 ≤ k → ∃ s' τ', Fl.walk L k s = some s' ∧ BW L S π s'.M s'.A τ'
  | 0, _, _, _, _, _, h => by omega
  | k + 1, s, τ, T, I, hm, h => by
    obtain ⟨τ1, T1, I1, h1⟩ := pass_all (N := N) fe ne lo hN hU L [] { s with mv := false } τ T rfl ⟨I.s0, I.sa, I.hi, I.ah, I.no, I.tt⟩ fun v hv => nomatch hv
    unfold Fl.walk
    rw [if_pos hm]
    rcases h1 with ⟨h1, h2⟩ | ⟨h1, h2⟩
    · obtain ⟨j, rfl⟩ : ∃ j, k = j + 1 := ⟨k - 1, by omega⟩
      have e : Fl.pass L s = { s with mv := false } := h1
      rw [e]
      refine ⟨{ s with mv := false }, τ, by unfold Fl.walk; rw [if_neg (by simp)], I.s0, I.sa, I.hi, fun v m hv hM => ?_, fun a ha m hm' => bet_not (h2 a ha) hm', I.no⟩
      obtain ⟨u, w, j', e1, e2, e3, e4, e5⟩ := I.ah v m hv hM
      obtain ⟨k', k1, k2⟩ := bet_not (h2 _ e1) e3
      have k1 : s.M v = some k' := k1
      rw [hM] at k1
      cases k1
      have k2 : j' + w ≤ m := k2
      refine ⟨u, w, j', e1, e2, e3, by omega, ?_⟩
      rcases e5 with e5 | e5
      · exact e5
      · omega
    · exact walk_ok fe ne lo hN hU k (Fl.pass L s) τ1 T1 I1 h1 (by have : tot U N (Fl.pass L s).M < tot U N s.M := h2; omega)
def start (S : Nat) : Bs := ⟨up (fun _ => none) S (some 0), fun _ => none, true⟩
theorem stM (S v : Nat) : (start S).M v = if v = S then some 0 else none := rfl
theorem start_ok : BI L S U π (start S) (fun _ => 0) 1 := by
  refine ⟨by rw [stM, if_pos rfl], rfl, fun v m h => ?_, fun v m hv h => ?_, fun v _ => rfl, fun v => Nat.one_pos⟩
  · rw [stM] at h
    by_cases q : v = S
    · subst q
      rw [if_pos rfl] at h
      cases h
      omega
    · rw [if_neg q] at h; cases h
  · rw [stM, if_neg hv] at h; cases h
theorem start_tot (N : Nat) : tot U N (start S).M ≤ N * (U + 1) := by
  unfold tot
  have : ∀ l : List Nat, (l.map fun v => cost U ((start S).M v)).sum ≤ l.length * (U + 1) := fun l => by
    induction l with
    | nil => simp
    | cons x l ih =>
      rw [List.map_cons, List.sum_cons, List.length_cons, Nat.succ_mul]
      have : cost U ((start S).M x) ≤ U + 1 := by
        cases (start S).M x with
        | none => exact Nat.le_refl _
        | some m => show U - _ ≤ U + 1; omega
      omega
  have := this (List.range N)
  rwa [List.length_range] at this
end
def arcsT (bl : Nat → List Nat) (n t : Nat) : List Arc := (2 * n, 2 * t, 0) :: (2 * t, 2 * t + 1, 1) :: (2 * t + 1, 2 * n + 1, 0) :: (bl t).map fun l => (2 * l + 1, 2 * t, 0)
def arcs (bl : Nat → List Nat) (n : Nat) : List Arc := (List.range n).flatMap (arcsT bl n)
abbrev Flow := List (Nat × Nat)
def opn (g : Flow) (a : Arc) : List Arc := (if a.2.2 = 0 ∨ (a.1, a.2.1) ∉ g then [a] else []) ++ (if (a.1, a.2.1) ∈ g then [(a.2.1, a.1, -a.2.2)] else [])
def opens (bl : Nat → List Nat) (n : Nat) (g : Flow) : List Arc := (arcs bl n).flatMap (opn g)
section
variable {bl : Nat → List Nat} {n : Nat} {g : Flow}
theorem mem_arcs {a : Arc} : a ∈ arcs bl n ↔ ∃ t, t < n ∧ (a = (2 * n, 2 * t, 0) ∨ a = (2 * t, 2 * t + 1, 1) ∨ a = (2 * t + 1, 2 * n + 1, 0) ∨ ∃ l ∈ bl t, a = (2 * l + 1, 2 * t, 0)) := by
  unfold arcs
  rw [List.mem_flatMap]
  constructor
  · rintro ⟨t, ht, h⟩
    refine ⟨t, List.mem_range.mp ht, ?_⟩
    unfold arcsT at h
    simp only [List.mem_cons, List.mem_map] at h
    rcases h with h | h | h | ⟨l, hl, h⟩
    · exact .inl h
    · exact .inr (.inl h)
    · exact .inr (.inr (.inl h))
    · exact .inr (.inr (.inr ⟨l, hl, h.symm⟩))
  · rintro ⟨t, ht, h⟩
    refine ⟨t, List.mem_range.mpr ht, ?_⟩
    unfold arcsT
    simp only [List.mem_cons, List.mem_map]
    rcases h with h | h | h | ⟨l, hl, h⟩
    · exact .inl h
    · exact .inr (.inl h)
    · exact .inr (.inr (.inl h))
    · exact .inr (.inr (.inr ⟨l, hl, h.symm⟩))
theorem mem_opens {b : Arc} : b ∈ opens bl n g ↔ (b ∈ arcs bl n ∧ (b.2.2 = 0 ∨ (b.1, b.2.1) ∉ g)) ∨ ((b.2.1, b.1, -b.2.2) ∈ arcs bl n ∧ (b.2.1, b.1) ∈ g) := by
  unfold opens
  rw [List.mem_flatMap]
  constructor
  · rintro ⟨a, ha, h⟩
    unfold opn at h
    rcases List.mem_append.mp h with h | h
    · split at h
      · next hc => rw [List.mem_singleton.mp h]; exact .inl ⟨ha, hc⟩
      · exact nomatch h
    · split at h
      · next hc =>
        rw [List.mem_singleton.mp h]
        refine .inr ⟨?_, hc⟩
        show (a.1, a.2.1, - -a.2.2) ∈ _
        rw [Int.neg_neg]; exact ha
      · exact nomatch h
  · rintro (⟨h1, h2⟩ | ⟨h1, h2⟩)
    · refine ⟨b, h1, ?_⟩
      unfold opn
      rw [if_pos h2]; simp
    · refine ⟨_, h1, ?_⟩
      unfold opn
      rw [if_pos h2]
      simp
def Low (bl : Nat → List Nat) : Prop := ∀ t, ∀ l ∈ bl t, l < t
theorem arc_ne (hb : Low bl) {a : Arc} (h : a ∈ arcs bl n) : a.1 ≠ a.2.1 ∧ a.1 < 2 * n + 2 ∧ a.2.1 < 2 * n + 2 := by
  obtain ⟨t, ht, h⟩ := mem_arcs.mp h
  rcases h with rfl | rfl | rfl | ⟨l, hl, rfl⟩
  · exact ⟨by show 2 * n ≠ 2 * t; omega, by show 2 * n < _; omega, by show 2 * t < _; omega⟩
  · exact ⟨by show 2 * t ≠ 2 * t + 1; omega, by show 2 * t < _; omega, by show 2 * t + 1 < _; omega⟩
  · exact ⟨by show 2 * t + 1 ≠ 2 * n + 1; omega, by show 2 * t + 1 < _; omega, by show 2 * n + 1 < _; omega⟩
  · have := hb t l hl
    exact ⟨by show 2 * l + 1 ≠ 2 * t; omega, by show 2 * l + 1 < _; omega, by show 2 * t < _; omega⟩
theorem open_ne (hb : Low bl) {a : Arc} (h : a ∈ opens bl n g) : a.1 ≠ a.2.1 ∧ a.2.1 < 2 * n + 2 := by
  rcases mem_opens.mp h with ⟨h, _⟩ | ⟨h, _⟩
  · have := arc_ne hb h; exact ⟨this.1, this.2.2⟩
  · have := arc_ne hb h; exact ⟨Ne.symm this.1, this.2.1⟩
theorem lows_app {S : Nat} {L B : List Arc} (h1 : Lows S L) (h2 : Lows S B) : Lows S (L ++ B) := fun L1 a L2 e w => by
  rcases List.append_eq_append_iff.mp e with ⟨C, e1, e2⟩ | ⟨C, e1, e2⟩
  · rw [e1]
    exact List.mem_append_right _ (h2 C a L2 e2 w)
  · cases C with
    | nil =>
      rw [List.append_nil] at e1
      rw [List.nil_append] at e2
      have := h2 [] a L2 (by rw [← e2]; rfl) w
      exact nomatch this
    | cons c C =>
      rw [List.cons_append] at e2
      injection e2 with e3 e4
      subst e3
      exact h1 L1 a C e1 w
theorem lows_block {S v : Nat} {B : List Arc} (h : ∀ a ∈ B, a.2.2 < 0 → a.2.1 = v) : Lows S ((S, v, 0) :: B) := fun L1 a L2 e w => by
  cases L1 with
  | nil =>
    rw [List.nil_append] at e
    injection e with e1 _
    rw [← e1] at w
    exact absurd w (by show ¬ (0 : Int) < 0; decide)
  | cons c C =>
    rw [List.cons_append] at e
    injection e with e1 e2
    have := h a (by rw [e2]; simp) w
    rw [this, e1]
    exact List.mem_cons_self
theorem opens_lows : Lows (2 * n) (opens bl n g) := by
  have gen : ∀ l : List Nat, Lows (2 * n) ((l.flatMap (arcsT bl n)).flatMap (opn g)) := fun l => by
    induction l with
    | nil => intro L1 a L2 e; simp at e
    | cons t l ih =>
      rw [List.flatMap_cons, List.flatMap_append]
      refine lows_app ?_ ih
      have e : (arcsT bl n t).flatMap (opn g) = (2 * n, 2 * t, 0) :: ((if (2 * n, 2 * t) ∈ g then [((2 * t, 2 * n, -0) : Arc)] else []) ++ ((2 * t, 2 * t + 1, 1) :: (2 * t + 1, 2 * n + 1, 0) :: (bl t).map fun l => ((2 * l + 1, 2 * t, 0) : Arc)).flatMap (opn g)) := by
        unfold arcsT
        rw [List.flatMap_cons]
        conv => lhs; arg 1; unfold opn
        rw [if_pos (.inl rfl)]
        rfl
      rw [e]
      refine lows_block fun a ha w => ?_
      rcases List.mem_append.mp ha with ha | ha
      · split at ha
        · rw [List.mem_singleton.mp ha] at w
          exact absurd w (by show ¬ (-0 : Int) < 0; decide)
        · exact nomatch ha
      · obtain ⟨c, hc, ha⟩ := List.mem_flatMap.mp ha
        unfold opn at ha
        have cs : c = (2 * t, 2 * t + 1, 1) ∨ c.2.2 = 0 := by
          simp only [List.mem_cons, List.mem_map] at hc
          rcases hc with rfl | rfl | ⟨l, _, rfl⟩
          · exact .inl rfl
          · exact .inr rfl
          · exact .inr rfl
        rcases List.mem_append.mp ha with ha | ha
        · split at ha
          · rw [List.mem_singleton.mp ha] at w
            rcases cs with rfl | cs
            · exact absurd w (by show ¬ (1 : Int) < 0; decide)
            · rw [cs] at w; exact absurd w (by decide)
          · exact nomatch ha
        · split at ha
          · rw [List.mem_singleton.mp ha] at w ⊢
            rcases cs with rfl | cs
            · rfl
            · have w : -c.2.2 < 0 := w
              rw [cs] at w; exact absurd w (by decide)
          · exact nomatch ha
  exact gen (List.range n)
end
end Fl
namespace Fl
theorem cnt_off {α : Type} [DecidableEq α] (P : α → Bool) (q : α) : ∀ {g : List α}, g.Nodup → q ∈ g → (g.filter fun p => decide (p ≠ q)).countP P + (if P q = true then 1 else 0) = g.countP P
  | [], _, h => nomatch h
  | x :: g, nd, h => by
    rw [List.nodup_cons] at nd
    by_cases e : x = q
    · subst e
      have e2 : g.filter (fun p => decide (p ≠ x)) = g := List.filter_eq_self.mpr fun y hy => by
        simp only [decide_eq_true_eq]
        exact fun z => nd.1 (z ▸ hy)
      rw [List.filter_cons, if_neg (by simp), e2, List.countP_cons]
    · rw [List.filter_cons, if_pos (by simpa using e), List.countP_cons, List.countP_cons]
      have := cnt_off P q nd.2 ((List.mem_cons.mp h).resolve_left fun z => e z.symm)
      omega
theorem cnt_lt {α : Type} {p q : α → Bool} : ∀ {l : List α}, (∀ x ∈ l, p x = true → q x = true) → (∃ x ∈ l, q x = true ∧ ¬ p x = true) → l.countP p < l.countP q
  | [], _, h => by obtain ⟨x, hx, _⟩ := h; exact nomatch hx
  | y :: l, h, k => by
    have le : l.countP p ≤ l.countP q := List.countP_mono_left fun x hx => h x (List.mem_cons_of_mem _ hx)
    rw [List.countP_cons, List.countP_cons]
    obtain ⟨x, hx, h1, h2⟩ := k
    rcases List.mem_cons.mp hx with rfl | hx
    · rw [if_neg h2, if_pos h1]; omega
    · have ih := cnt_lt (fun z hz => h z (List.mem_cons_of_mem _ hz)) ⟨x, hx, h1, h2⟩
      by_cases hp : p y = true
      · rw [if_pos hp, if_pos (h y List.mem_cons_self hp)]; omega
      · rw [if_neg hp]; omega
def isW (p : Nat × Nat) : Bool := decide (p.2 = p.1 + 1 ∧ p.1 % 2 = 0)
def val (g : Flow) : Nat := g.countP isW
def inn (g : Flow) (v : Nat) : Nat := g.countP fun p => decide (p.2 = v)
def out (g : Flow) (v : Nat) : Nat := g.countP fun p => decide (p.1 = v)
def ind (b : Prop) [Decidable b] : Int := if b then 1 else 0
section
variable {bl : Nat → List Nat} {n : Nat} {g h : Flow}
theorem arc_wt {x y : Nat} {c : Int} (ha : (x, y, c) ∈ arcs bl n) (hb : Low bl) : c = if isW (x, y) = true then 1 else 0 := by
  unfold isW
  obtain ⟨t, ht, hh⟩ := mem_arcs.mp ha
  rcases hh with hh | hh | hh | ⟨l, hl, hh⟩
  · cases hh; rw [if_neg (by first | (simp; omega) | simp)]
  · cases hh; rw [if_pos (by first | (simp; omega) | simp)]
  · cases hh; rw [if_neg (by first | (simp; omega) | simp)]
  · cases hh; rw [if_neg (by first | (simp; omega) | simp)]
theorem no_anti {x y : Nat} {c d : Int} (hb : Low bl) (h1 : (x, y, c) ∈ arcs bl n) (h2 : (y, x, d) ∈ arcs bl n) : False := by
  obtain ⟨t, ht, hh⟩ := mem_arcs.mp h1
  obtain ⟨r, hr, kk⟩ := mem_arcs.mp h2
  rcases hh with hh | hh | hh | ⟨l, hl, hh⟩ <;> rcases kk with kk | kk | kk | ⟨m, hm, kk⟩ <;> injection hh with a1 a2 <;> injection a2 with a2 _ <;> injection kk with b1 b2 <;> injection b2 with b2 _ <;> first | omega | (have := hb t l hl; have := hb r m hm; omega) | (have := hb t l hl; omega) | (have := hb r m hm; omega)
structure FI (bl : Nat → List Nat) (n : Nat) (g : Flow) : Prop where
  nd : g.Nodup
  ar : ∀ p ∈ g, ∃ w, (p.1, p.2, w) ∈ arcs bl n
  ba : ∀ v, v < 2 * n → inn g v = out g v
theorem FI.outf (F : FI bl n g) (hb : Low bl) {t : Nat} (ht : t < n) {p : Nat × Nat} (hp : p ∈ g) (e : p.1 = 2 * t) : p = (2 * t, 2 * t + 1) := by
  obtain ⟨w, h⟩ := F.ar p hp
  obtain ⟨r, hr, hh⟩ := mem_arcs.mp h
  rcases hh with hh | hh | hh | ⟨l, hl, hh⟩ <;> injection hh with a1 a2 <;> injection a2 with a2 _
  · omega
  · have : r = t := by omega
    subst this
    exact Prod.ext a1 a2
  · omega
  · omega
theorem FI.inh (F : FI bl n g) (hb : Low bl) {t : Nat} (ht : t < n) {p : Nat × Nat} (hp : p ∈ g) (e : p.2 = 2 * t + 1) : p = (2 * t, 2 * t + 1) := by
  obtain ⟨w, h⟩ := F.ar p hp
  obtain ⟨r, hr, hh⟩ := mem_arcs.mp h
  rcases hh with hh | hh | hh | ⟨l, hl, hh⟩ <;> injection hh with a1 a2 <;> injection a2 with a2 _
  · omega
  · have : r = t := by omega
    subst this
    exact Prod.ext a1 a2
  · omega
  · omega
theorem cnt_one {P : Nat × Nat → Bool} {q : Nat × Nat} (nd : g.Nodup) (h : ∀ p ∈ g, P p = true → p = q) : g.countP P ≤ 1 := by
  induction g with
  | nil => simp
  | cons x g ih =>
    rw [List.nodup_cons] at nd
    rw [List.countP_cons]
    by_cases hx : P x = true
    · rw [if_pos hx]
      have e : g.countP P = 0 := List.countP_eq_zero.mpr fun y hy hP => by
        have h1 := h x List.mem_cons_self hx
        have h2 := h y (List.mem_cons_of_mem _ hy) hP
        exact nd.1 (by rw [h1, ← h2]; exact hy)
      omega
    · rw [if_neg hx]
      exact ih nd.2 fun p hp => h p (List.mem_cons_of_mem _ hp)
theorem cnt_uniq {P : Nat × Nat → Bool} (nd : g.Nodup) (h : g.countP P ≤ 1) {p q : Nat × Nat} (hp : p ∈ g) (hq : q ∈ g) (h1 : P p = true) (h2 : P q = true) : p = q := by
  induction g with
  | nil => exact nomatch hp
  | cons x g ih =>
    rw [List.nodup_cons] at nd
    rw [List.countP_cons] at h
    have pos : ∀ {y}, y ∈ g → P y = true → 1 ≤ g.countP P := fun {y} hy hP => List.countP_pos_iff.mpr ⟨y, hy, hP⟩
    rcases List.mem_cons.mp hp with e1 | hp' <;> rcases List.mem_cons.mp hq with e2 | hq'
    · rw [e1, e2]
    · rw [← e1, if_pos h1] at h; have := pos hq' h2; omega
    · rw [← e2, if_pos h2] at h; have := pos hp' h1; omega
    · exact ih nd.2 (by split at h <;> omega) hp' hq'
theorem FI.foot1 (F : FI bl n g) (hb : Low bl) {t : Nat} (ht : t < n) : inn g (2 * t) ≤ 1 := by
  rw [F.ba _ (by omega)]
  exact cnt_one F.nd fun p hp e => F.outf hb ht hp (of_decide_eq_true e)
theorem FI.head1 (F : FI bl n g) (hb : Low bl) {t : Nat} (ht : t < n) : out g (2 * t + 1) ≤ 1 := by
  rw [← F.ba _ (by omega)]
  exact cnt_one F.nd fun p hp e => F.inh hb ht hp (of_decide_eq_true e)
theorem FI.gate_of_in (F : FI bl n g) (hb : Low bl) {t : Nat} (ht : t < n) {p : Nat × Nat} (hp : p ∈ g) (e : p.2 = 2 * t) : (2 * t, 2 * t + 1) ∈ g := by
  have : 0 < out g (2 * t) := by
    rw [← F.ba _ (by omega)]
    exact List.countP_pos_iff.mpr ⟨p, hp, decide_eq_true e⟩
  obtain ⟨q, hq, e2⟩ := List.countP_pos_iff.mp this
  rw [← F.outf hb ht hq (of_decide_eq_true e2)]; exact hq
theorem FI.gate_of_out (F : FI bl n g) (hb : Low bl) {t : Nat} (ht : t < n) {p : Nat × Nat} (hp : p ∈ g) (e : p.1 = 2 * t + 1) : (2 * t, 2 * t + 1) ∈ g := by
  have : 0 < inn g (2 * t + 1) := by
    rw [F.ba _ (by omega)]
    exact List.countP_pos_iff.mpr ⟨p, hp, decide_eq_true e⟩
  obtain ⟨q, hq, e2⟩ := List.countP_pos_iff.mp this
  rw [← F.inh hb ht hq (of_decide_eq_true e2)]; exact hq
theorem FI.in_of_gate (F : FI bl n g) {t : Nat} (ht : t < n) (h : (2 * t, 2 * t + 1) ∈ g) : ∃ x, (x, 2 * t) ∈ g := by
  have : 0 < inn g (2 * t) := by
    rw [F.ba _ (by omega)]
    exact List.countP_pos_iff.mpr ⟨_, h, decide_eq_true rfl⟩
  obtain ⟨q, hq, e2⟩ := List.countP_pos_iff.mp this
  refine ⟨q.1, ?_⟩
  rw [← show q.2 = 2 * t from of_decide_eq_true e2]; exact hq
theorem FI.out_of_gate (F : FI bl n g) {t : Nat} (ht : t < n) (h : (2 * t, 2 * t + 1) ∈ g) : ∃ x, (2 * t + 1, x) ∈ g := by
  have : 0 < out g (2 * t + 1) := by
    rw [← F.ba _ (by omega)]
    exact List.countP_pos_iff.mpr ⟨_, h, decide_eq_true rfl⟩
  obtain ⟨q, hq, e2⟩ := List.countP_pos_iff.mp this
  refine ⟨q.2, ?_⟩
  rw [← show q.1 = 2 * t + 1 from of_decide_eq_true e2]; exact hq
def grw (A : Nat → Option Nat) : Nat → Nat → Flow → Option Flow
  | 0, _, _ => none
  | k + 1, v, g => match A v with
    | none => some g
    | some u => if (v, u) ∈ g then grw A k u (g.filter fun p => decide (p ≠ (v, u))) else if (u, v) ∉ g then grw A k u (g ++ [(u, v)]) else none
theorem fresh {π : Nat → Int} {M : Mk} {A : Nat → Option Nat} {τ : Nat → Nat} (F : FI bl n g) (hb : Low bl) (W : BW (opens bl n g) (2 * n) π M A τ) (all : ∀ v, v < 2 * n + 2 → M v ≠ none) {u v : Nat} (hv : v < 2 * n + 2) (hA : A v = some u) (next : v = 2 * n + 1 ∨ ∃ v2, v2 < 2 * n + 2 ∧ A v2 = some v) (hn : (v, u) ∉ g) : (u, v) ∉ g := by
  have get : ∀ {x y : Nat}, x < 2 * n + 2 → A x = some y → ∃ w, (y, x, w) ∈ opens bl n g ∧ τ y < τ x := fun {x y} hx hxy => by
    have nS : x ≠ 2 * n := fun z => by rw [z, W.sa] at hxy; cases hxy
    cases q : M x with
    | none => exact absurd q (all x hx)
    | some m =>
      obtain ⟨y', w, k, e1, e2, _, _, e5⟩ := W.ti x m nS q
      rw [hxy] at e2; cases e2
      exact ⟨w, e1, e5⟩
  obtain ⟨w, ho, ht⟩ := get hv hA
  intro hin
  rcases mem_opens.mp ho with ⟨h1, h2⟩ | ⟨_, h2⟩
  · have h1 : (u, v, w) ∈ arcs bl n := h1
    have h2 : w = 0 ∨ (u, v) ∉ g := h2
    rcases h2 with h2 | h2
    · subst h2
      obtain ⟨t, htn, hh⟩ := mem_arcs.mp h1
      have foot : v = 2 * t → False := fun e => by
        have gate := F.gate_of_in hb htn hin e
        rcases next with z | ⟨v2, hv2, hA2⟩
        · omega
        · obtain ⟨w2, ho2, ht2⟩ := get hv2 hA2
          rcases mem_opens.mp ho2 with ⟨k1, k2⟩ | ⟨_, k2⟩
          · have k1 : (v, v2, w2) ∈ arcs bl n := k1
            have k2 : w2 = 0 ∨ (v, v2) ∉ g := k2
            obtain ⟨r, hr, kk⟩ := mem_arcs.mp k1
            rcases kk with kk | kk | kk | ⟨l, hl, kk⟩ <;> injection kk with b1 b2 <;> injection b2 with b2 b3
            · omega
            · have : r = t := by omega
              subst this
              rcases k2 with k2 | k2
              · omega
              · exact k2 (by rw [b1, b2]; exact gate)
            · omega
            · omega
          · have k2 : (v2, v) ∈ g := k2
            have e1 := cnt_uniq F.nd (F.foot1 hb htn) hin k2 (decide_eq_true e) (decide_eq_true e)
            injection e1 with e1 _
            subst e1
            omega
      rcases hh with hh | hh | hh | ⟨l, hl, hh⟩ <;> injection hh with b1 b2 <;> injection b2 with b2 b3
      · exact foot b2
      · omega
      · -- a head, and the sink
        have gate := F.gate_of_out hb htn hin b1
        have hu : u < 2 * n + 2 := by omega
        have nS : u ≠ 2 * n := by omega
        cases q : M u with
        | none => exact absurd q (all u hu)
        | some m =>
          obtain ⟨x, w2, k, e1, e2, _, _, e5⟩ := W.ti u m nS q
          rcases mem_opens.mp e1 with ⟨k1, k2⟩ | ⟨_, k2⟩
          · have k1 : (x, u, w2) ∈ arcs bl n := k1
            have k2 : w2 = 0 ∨ (x, u) ∉ g := k2
            obtain ⟨r, hr, kk⟩ := mem_arcs.mp k1
            rcases kk with kk | kk | kk | ⟨l, hl, kk⟩ <;> injection kk with c1 c2 <;> injection c2 with c2 c3
            · omega
            · have : r = t := by omega
              subst this
              rcases k2 with k2 | k2
              · omega
              · exact k2 (by rw [c1, c2]; exact gate)
            · omega
            · omega
          · have k2 : (u, x) ∈ g := k2
            have e3 := cnt_uniq F.nd (F.head1 hb htn) hin k2 (decide_eq_true b1) (decide_eq_true b1)
            injection e3 with _ e3
            subst e3
            omega
      · exact foot b2
    · exact h2 hin
  · exact hn h2
structure GI (bl : Nat → List Nat) (n : Nat) (g : Flow) (M : Mk) (A : Nat → Option Nat) (τ : Nat → Nat) (v : Nat) (h : Flow) : Prop where
  nd : h.Nodup
  ar : ∀ p ∈ h, ∃ w, (p.1, p.2, w) ∈ arcs bl n
  ex : ∀ x, (inn h x : Int) - out h x = inn g x - out g x + ind (x = 2 * n + 1) - ind (x = v)
  vl : ∀ m k, M v = some m → M (2 * n + 1) = some k → (val h : Int) + m = val g + k
  ag : ∀ x u, x < 2 * n + 2 → A x = some u → τ x ≤ τ v → ((x, u) ∈ h ↔ (x, u) ∈ g) ∧ ((u, x) ∈ h ↔ (u, x) ∈ g)
  n1 : ∀ p ∈ h, p ∈ g ∨ A p.2 = some p.1
  n2 : ∀ p ∈ g, p ∉ h → A p.1 = some p.2
  nx : v = 2 * n + 1 ∨ ∃ v2, v2 < 2 * n + 2 ∧ A v2 = some v
  vN : v < 2 * n + 2
def rnk (n : Nat) (τ : Nat → Nat) (v : Nat) : Nat := (List.range (2 * n + 2)).countP fun x => decide (τ x < τ v)
theorem rnk_lt {τ : Nat → Nat} {u v : Nat} (hu : u < 2 * n + 2) (h : τ u < τ v) : rnk n τ u < rnk n τ v :=
  cnt_lt (fun x _ hx => decide_eq_true (Nat.lt_trans (of_decide_eq_true hx) h)) ⟨u, List.mem_range.mpr hu, decide_eq_true h, fun z => Nat.lt_irrefl _ (of_decide_eq_true z)⟩
theorem grow_go {π : Nat → Int} {M : Mk} {A : Nat → Option Nat} {τ : Nat → Nat} (F : FI bl n g) (hb : Low bl) (W : BW (opens bl n g) (2 * n) π M A τ) (all : ∀ v, v < 2 * n + 2 → M v ≠ none) : ∀ (k v : Nat) (h : Flow), rnk n τ v < k → GI bl n g M A τ v h →
    ∃ h', grw A k v h = some h' ∧ GI bl n g M A τ (2 * n) h'
  | 0, _, _, hk, _ => absurd hk (Nat.not_lt_zero _)
  | k + 1, v, h, hk, I => by
    have get : ∀ {x y : Nat}, x < 2 * n + 2 → A x = some y → τ y < τ x := fun {x y} hx hxy => by
      have nS : x ≠ 2 * n := fun z => by rw [z, W.sa] at hxy; cases hxy
      cases q : M x with
      | none => exact absurd q (all x hx)
      | some m =>
        obtain ⟨y', w, k, e1, e2, _, _, e5⟩ := W.ti x m nS q
        rw [hxy] at e2; cases e2
        exact e5
    unfold grw
    cases hA : A v with
    | none =>
      have e : v = 2 * n := by
        apply Classical.byContradiction
        intro nS
        cases q : M v with
        | none => exact all v I.vN q
        | some m =>
          obtain ⟨u, w, k, _, e2, _⟩ := W.ti v m nS q
          rw [hA] at e2; cases e2
      subst e
      exact ⟨h, rfl, I⟩
    | some u =>
      have nS : v ≠ 2 * n := fun z => by rw [z, W.sa] at hA; cases hA
      obtain ⟨m, hM⟩ : ∃ m, M v = some m := by
        cases q : M v with
        | none => exact absurd q (all v I.vN)
        | some m => exact ⟨m, rfl⟩
      obtain ⟨u', w, ku, ho, e2, hMu, em, htau⟩ := W.ti v m nS hM
      rw [hA] at e2
      cases e2
      have huN : u < 2 * n + 2 := by
        rcases mem_opens.mp ho with ⟨h1, _⟩ | ⟨h1, _⟩
        · exact (arc_ne hb h1).2.1
        · exact (arc_ne hb h1).2.2
      have agv := I.ag v u I.vN hA (Nat.le_refl _)
      have rk : rnk n τ u < k := by have := rnk_lt (n := n) huN htau; omega
      dsimp only
      by_cases hin : (v, u) ∈ h
      · rw [if_pos hin]
        have hg := agv.1.mp hin
        have back : (v, u, -w) ∈ arcs bl n := by
          rcases mem_opens.mp ho with ⟨h1, _⟩ | ⟨h1, _⟩
          · obtain ⟨c, hc⟩ := F.ar _ hg
            exact absurd h1 (fun z => no_anti hb z hc)
          · exact h1
        have hw := arc_wt back hb
        refine grow_go F hb W all k u _ rk ⟨I.nd.sublist List.filter_sublist, fun p hp => I.ar p (List.mem_filter.mp hp).1, fun x => ?_, fun m' k' hm' hk' => ?_, fun x y hx hxy ht => ?_, fun p hp => I.n1 p (List.mem_filter.mp hp).1, fun p hp hn => ?_, .inr ⟨v, I.vN, hA⟩, huN⟩
        · have e := I.ex x
          have c1 := cnt_off (fun p : Nat × Nat => decide (p.2 = x)) (v, u) I.nd hin
          have c2 := cnt_off (fun p : Nat × Nat => decide (p.1 = x)) (v, u) I.nd hin
          unfold inn out at e ⊢
          unfold ind at e ⊢
          simp only [decide_eq_true_eq] at c1 c2
          by_cases q1 : x = v <;> by_cases q2 : x = u
          · subst q1; exact absurd htau (by rw [q2]; exact Nat.lt_irrefl _)
          · subst q1
            rw [if_neg (fun z => q2 z.symm)] at c1
            rw [if_pos rfl] at c2
            rw [if_pos rfl] at e
            rw [if_neg q2]
            omega
          · subst q2
            rw [if_pos rfl] at c1
            rw [if_neg (fun z => q1 z.symm)] at c2
            rw [if_neg q1] at e
            rw [if_pos rfl]
            omega
          · rw [if_neg (fun z => q2 z.symm)] at c1
            rw [if_neg (fun z => q1 z.symm)] at c2
            rw [if_neg q1] at e
            rw [if_neg q2]
            omega
        · rw [hMu] at hm'; cases hm'
          have e := I.vl m k' hM hk'
          have c := cnt_off isW (v, u) I.nd hin
          unfold val at e ⊢
          split at c <;> split at hw <;> first | omega | contradiction
        · have hx2 : x ≠ v := fun z => by rw [z] at ht; omega
          have := get hx hxy
          obtain ⟨a1, a2⟩ := I.ag x y hx hxy (by omega)
          refine ⟨⟨fun z => a1.mp (List.mem_filter.mp z).1, fun z => List.mem_filter.mpr ⟨a1.mpr z, decide_eq_true fun q => ?_⟩⟩, ⟨fun z => a2.mp (List.mem_filter.mp z).1, fun z => List.mem_filter.mpr ⟨a2.mpr z, decide_eq_true fun q => ?_⟩⟩⟩
          · injection q with q1 _; exact hx2 q1
          · injection q with q1 q2
            rw [q1, q2] at this
            omega
        · by_cases q : p ∈ h
          · have : p = (v, u) := by
              apply Classical.byContradiction
              intro z
              exact hn (List.mem_filter.mpr ⟨q, decide_eq_true z⟩)
            rw [this]; exact hA
          · exact I.n2 p hp q
      · rw [if_neg hin]
        have ng : (v, u) ∉ g := fun z => hin (agv.1.mpr z)
        have fr := fresh F hb W all I.vN hA I.nx ng
        have nh : (u, v) ∉ h := fun z => fr (agv.2.mp z)
        rw [if_pos nh]
        have fwd : (u, v, w) ∈ arcs bl n := by
          rcases mem_opens.mp ho with ⟨h1, _⟩ | ⟨_, h1⟩
          · exact h1
          · exact absurd h1 ng
        have hw := arc_wt fwd hb
        refine grow_go F hb W all k u _ rk ⟨?_, fun p hp => ?_, fun x => ?_, fun m' k' hm' hk' => ?_, fun x y hx hxy ht => ?_, fun p hp => ?_, fun p hp hn => I.n2 p hp fun z => hn (List.mem_append_left _ z), .inr ⟨v, I.vN, hA⟩, huN⟩
        · rw [List.nodup_append]
          exact ⟨I.nd, by simp, fun a ha b hb' => by rw [List.mem_singleton.mp hb']; exact fun z => nh (z ▸ ha)⟩
        · rcases List.mem_append.mp hp with hp | hp
          · exact I.ar p hp
          · rw [List.mem_singleton.mp hp]; exact ⟨w, fwd⟩
        · have e := I.ex x
          unfold inn out at e ⊢
          rw [List.countP_append, List.countP_append, List.countP_singleton, List.countP_singleton]
          unfold ind at e ⊢
          simp only [decide_eq_true_eq]
          by_cases q1 : x = v <;> by_cases q2 : x = u
          · subst q1; exact absurd htau (by rw [q2]; exact Nat.lt_irrefl _)
          · subst q1
            rw [if_pos rfl] at e
            rw [if_neg q2, if_pos rfl, if_neg (fun z => q2 z.symm)]
            omega
          · subst q2
            rw [if_neg q1] at e
            rw [if_pos rfl, if_pos rfl, if_neg (fun z => q1 z.symm)]
            omega
          · rw [if_neg q1] at e
            rw [if_neg q2, if_neg (fun z => q1 z.symm), if_neg (fun z => q2 z.symm)]
            omega
        · rw [hMu] at hm'; cases hm'
          have e := I.vl m k' hM hk'
          unfold val at e ⊢
          rw [List.countP_append, List.countP_singleton]
          split <;> split at hw <;> first | omega | contradiction
        · have hx2 : x ≠ v := fun z => by rw [z] at ht; omega
          have := get hx hxy
          obtain ⟨a1, a2⟩ := I.ag x y hx hxy (by omega)
          refine ⟨⟨fun z => ?_, fun z => List.mem_append_left _ (a1.mpr z)⟩, ⟨fun z => ?_, fun z => List.mem_append_left _ (a2.mpr z)⟩⟩
          · rcases List.mem_append.mp z with z | z
            · exact a1.mp z
            · have z := List.mem_singleton.mp z
              injection z with z1 z2
              rw [z1, z2] at this
              omega
          · rcases List.mem_append.mp z with z | z
            · exact a2.mp z
            · have z := List.mem_singleton.mp z
              injection z with _ z2
              exact absurd z2 hx2
        · rcases List.mem_append.mp hp with hp | hp
          · exact I.n1 p hp
          · rw [List.mem_singleton.mp hp]; exact .inr hA
theorem grow_ok {π : Nat → Int} {M : Mk} {A : Nat → Option Nat} {τ : Nat → Nat} (F : FI bl n g) (hb : Low bl) (W : BW (opens bl n g) (2 * n) π M A τ) (all : ∀ v, v < 2 * n + 2 → M v ≠ none) {k : Nat} (hk : 2 * n + 2 < k) {mz : Int} (hz : M (2 * n + 1) = some mz) :
    ∃ g', grw A k (2 * n + 1) g = some g' ∧ FI bl n g' ∧ (val g' : Int) = val g + mz ∧ (∀ p ∈ g', p ∈ g ∨ A p.2 = some p.1) ∧ (∀ p ∈ g, p ∉ g' → A p.1 = some p.2) := by
  have rk : rnk n τ (2 * n + 1) < k := by
    unfold rnk
    have := List.countP_le_length (p := fun x => decide (τ x < τ (2 * n + 1))) (l := List.range (2 * n + 2))
    rw [List.length_range] at this
    omega
  obtain ⟨g', e, I⟩ := grow_go F hb W all k (2 * n + 1) g rk ⟨F.nd, F.ar, fun x => by unfold ind; omega, fun m k hm hk => by rw [hm] at hk; cases hk; omega, fun x u _ _ _ => ⟨Iff.rfl, Iff.rfl⟩, fun p hp => .inl hp, fun p hp hn => absurd hp hn, .inl rfl, by omega⟩
  refine ⟨g', e, ⟨I.nd, I.ar, fun v hv => ?_⟩, ?_, I.n1, I.n2⟩
  · have h1 := I.ex v
    have h2 := F.ba v hv
    unfold ind at h1
    rw [if_neg (by omega), if_neg (by omega)] at h1
    omega
  · have := I.vl 0 mz W.s0 hz
    omega
end
end Fl
namespace Fl
section
variable {bl : Nat → List Nat} {n : Nat} {g g' : Flow} {π : Nat → Int} {M : Mk} {A : Nat → Option Nat} {τ : Nat → Nat}
theorem reached (F : FI bl n g) (hb : Low bl) (W : BW (opens bl n g) (2 * n) π M A τ) (un : ∃ t, t < n ∧ (2 * t, 2 * t + 1) ∉ g) : (∀ v, v < 2 * n + 2 → M v ≠ none) ∧ ∃ z, M (2 * n + 1) = some z ∧ 1 ≤ z := by
  have foot : ∀ t, t < n → ∃ k, M (2 * t) = some k ∧ 0 ≤ k := fun t ht => by
    obtain ⟨k, h1, h2⟩ := W.fx (2 * n, 2 * t, 0) (mem_opens.mpr (.inl ⟨mem_arcs.mpr ⟨t, ht, .inl rfl⟩, .inl rfl⟩)) 0 W.s0
    exact ⟨k, h1, (W.hi _ _ h1).1⟩
  have gat : ∀ t, t < n → (2 * t, 2 * t + 1) ∉ g → ∃ k, M (2 * t + 1) = some k ∧ 1 ≤ k := fun t ht hn => by
    obtain ⟨k, h1, h2⟩ := foot t ht
    obtain ⟨j, h3, h4⟩ := W.fx (2 * t, 2 * t + 1, 1) (mem_opens.mpr (.inl ⟨mem_arcs.mpr ⟨t, ht, .inr (.inl rfl)⟩, .inr hn⟩)) k h1
    have h4 : k + 1 ≤ j := h4
    exact ⟨j, h3, by omega⟩
  have sink : ∃ z, M (2 * n + 1) = some z ∧ 1 ≤ z := by
    obtain ⟨t, ht, hn⟩ := un
    obtain ⟨k, h1, h2⟩ := gat t ht hn
    obtain ⟨j, h3, h4⟩ := W.fx (2 * t + 1, 2 * n + 1, 0) (mem_opens.mpr (.inl ⟨mem_arcs.mpr ⟨t, ht, .inr (.inr (.inl rfl))⟩, .inl rfl⟩)) k h1
    have h4 : k + 0 ≤ j := h4
    exact ⟨j, h3, by omega⟩
  refine ⟨fun v hv => ?_, sink⟩
  have hs := sink
  obtain ⟨z, hz, _⟩ := sink
  by_cases e1 : v = 2 * n + 1
  · rw [e1, hz]; exact fun q => by cases q
  by_cases e2 : v = 2 * n
  · rw [e2, W.s0]; exact fun q => by cases q
  obtain ⟨t, ht⟩ : ∃ t, v = 2 * t ∨ v = 2 * t + 1 := ⟨v / 2, by omega⟩
  have htn : t < n := by omega
  rcases ht with rfl | rfl
  · obtain ⟨k, h1, _⟩ := foot t htn
    rw [h1]; exact fun q => by cases q
  · by_cases hg : (2 * t, 2 * t + 1) ∈ g
    · obtain ⟨x, hx⟩ := F.out_of_gate htn hg
      obtain ⟨w, hw⟩ := F.ar _ hx
      have hw : (2 * t + 1, x, w) ∈ arcs bl n := hw
      have ho : (x, 2 * t + 1, -w) ∈ opens bl n g := mem_opens.mpr (.inr ⟨by show (2 * t + 1, x, - -w) ∈ _; rw [Int.neg_neg]; exact hw, hx⟩)
      have hx : ∃ k, M x = some k := by
        obtain ⟨r, hr, hh⟩ := mem_arcs.mp hw
        rcases hh with hh | hh | hh | ⟨l, hl, hh⟩ <;> injection hh with b1 b2 <;> injection b2 with b2 b3
        · obtain ⟨k, h1, _⟩ := foot r hr; exact ⟨k, by rw [b2]; exact h1⟩
        · omega
        · exact ⟨z, by rw [b2]; exact hz⟩
        · obtain ⟨k, h1, _⟩ := foot r hr; exact ⟨k, by rw [b2]; exact h1⟩
      obtain ⟨k, hk⟩ := hx
      obtain ⟨j, h3, _⟩ := W.fx _ ho k hk
      have h3 : M (2 * t + 1) = some j := h3
      rw [h3]; exact fun q => by cases q
    · obtain ⟨k, h1, _⟩ := gat t htn hg
      rw [h1]; exact fun q => by cases q
theorem next_feas (F : FI bl n g) (hb : Low bl) (W : BW (opens bl n g) (2 * n) π M A τ) (all : ∀ v, v < 2 * n + 2 → M v ≠ none) (n1 : ∀ p ∈ g', p ∈ g ∨ A p.2 = some p.1) (n2 : ∀ p ∈ g, p ∉ g' → A p.1 = some p.2) : Feas (opens bl n g') fun v => (M v).getD 0 := fun a ha => by
  have mk : ∀ v, v < 2 * n + 2 → ∃ k, M v = some k := fun v hv => by
    cases q : M v with
    | none => exact absurd q (all v hv)
    | some k => exact ⟨k, rfl⟩
  have fx : a ∈ opens bl n g → a.1 < 2 * n + 2 → (M a.1).getD 0 + a.2.2 ≤ (M a.2.1).getD 0 := fun h hN => by
    obtain ⟨k, hk⟩ := mk _ hN
    obtain ⟨j, h1, h2⟩ := W.fx a h k hk
    rw [hk, h1]; exact h2
  have tight : ∀ {x y : Nat}, x < 2 * n + 2 → A x = some y → ∃ w k, (y, x, w) ∈ opens bl n g ∧ M y = some k ∧ M x = some (k + w) := fun {x y} hx hxy => by
    have nS : x ≠ 2 * n := fun z => by rw [z, W.sa] at hxy; cases hxy
    obtain ⟨m, hm⟩ := mk x hx
    obtain ⟨y', w, k, e1, e2, e3, e4, _⟩ := W.ti x m nS hm
    rw [hxy] at e2; cases e2
    exact ⟨w, k, e1, e3, by rw [hm, e4]⟩
  rcases mem_opens.mp ha with ⟨h1, h2⟩ | ⟨h1, h2⟩
  · have nn := arc_ne hb h1
    by_cases hc : a.2.2 = 0 ∨ (a.1, a.2.1) ∉ g
    · exact fx (mem_opens.mpr (.inl ⟨h1, hc⟩)) nn.2.1
    · have hin : (a.1, a.2.1) ∈ g := Classical.byContradiction fun z => hc (.inr z)
      have hA : A a.1 = some a.2.1 := n2 _ hin (h2.resolve_left fun z => hc (.inl z))
      obtain ⟨w, k, ho, hk, hx⟩ := tight nn.2.1 hA
      have hw : w = -a.2.2 := by
        rcases mem_opens.mp ho with ⟨q, _⟩ | ⟨q, _⟩
        · exact absurd q fun z => no_anti hb h1 z
        · have q : (a.1, a.2.1, -w) ∈ arcs bl n := q
          have e1 := arc_wt q hb
          have e2 := arc_wt (show (a.1, a.2.1, a.2.2) ∈ arcs bl n from h1) hb
          omega
      show (M a.1).getD 0 + a.2.2 ≤ (M a.2.1).getD 0
      rw [hx, hk, hw]
      show k + -a.2.2 + a.2.2 ≤ k
      omega
  · have nn := arc_ne hb h1
    by_cases hc : (a.2.1, a.1) ∈ g
    · exact fx (mem_opens.mpr (.inr ⟨h1, hc⟩)) nn.2.2
    · have hA : A a.1 = some a.2.1 := (n1 _ h2).resolve_left hc
      obtain ⟨w, k, ho, hk, hx⟩ := tight nn.2.2 hA
      have hw : w = -a.2.2 := by
        rcases mem_opens.mp ho with ⟨q, _⟩ | ⟨q, _⟩
        · have q : (a.2.1, a.1, w) ∈ arcs bl n := q
          have e1 := arc_wt q hb
          have e2 := arc_wt h1 hb
          omega
        · have q : (a.1, a.2.1, -w) ∈ arcs bl n := q
          exact absurd q fun z => no_anti hb h1 z
      show (M a.1).getD 0 + a.2.2 ≤ (M a.2.1).getD 0
      rw [hx, hk, hw]
      show k + -a.2.2 + a.2.2 ≤ k
      omega
def pi0 (n : Nat) : Nat → Int := fun v => if v = 2 * n + 1 then (n : Int) else if v < 2 * n then (((v + 1) / 2 : Nat) : Int) else 0
theorem feas0 (hb : Low bl) : Feas (opens bl n []) (pi0 n) := fun a ha => by
  rcases mem_opens.mp ha with ⟨h1, _⟩ | ⟨_, h2⟩
  · obtain ⟨t, ht, hh⟩ := mem_arcs.mp h1
    unfold pi0
    rcases hh with rfl | rfl | rfl | ⟨l, hl, rfl⟩
    · show (if 2 * n = 2 * n + 1 then _ else if 2 * n < 2 * n then _ else (0 : Int)) + 0 ≤ if 2 * t = 2 * n + 1 then _ else if 2 * t < 2 * n then _ else _
      rw [if_neg (by omega), if_neg (by omega), if_neg (by omega), if_pos (by omega)]
      dsimp only
      omega
    · show (if 2 * t = 2 * n + 1 then _ else if 2 * t < 2 * n then _ else (0 : Int)) + 1 ≤ if 2 * t + 1 = 2 * n + 1 then _ else if 2 * t + 1 < 2 * n then _ else _
      rw [if_neg (by omega), if_pos (by omega), if_neg (by omega), if_pos (by omega)]
      dsimp only
      omega
    · show (if 2 * t + 1 = 2 * n + 1 then _ else if 2 * t + 1 < 2 * n then _ else (0 : Int)) + 0 ≤ if 2 * n + 1 = 2 * n + 1 then _ else _
      rw [if_neg (by omega), if_pos (by omega), if_pos rfl]
      dsimp only
      omega
    · have := hb t l hl
      show (if 2 * l + 1 = 2 * n + 1 then _ else if 2 * l + 1 < 2 * n then _ else (0 : Int)) + 0 ≤ if 2 * t = 2 * n + 1 then _ else if 2 * t < 2 * n then _ else _
      rw [if_neg (by omega), if_pos (by omega), if_neg (by omega), if_pos (by omega)]
      dsimp only
      omega
  · exact nomatch h2
theorem pi0_le (v : Nat) : pi0 n v - pi0 n (2 * n) ≤ (n : Int) := by
  have e : pi0 n (2 * n) = 0 := by unfold pi0; rw [if_neg (by omega), if_neg (by omega)]
  rw [e]
  unfold pi0
  split
  · omega
  · split
    · omega
    · omega
theorem fi0 : FI bl n [] := ⟨List.nodup_nil, (fun p h => nomatch h), fun v _ => rfl⟩
def stepC (g : Flow) (c : List Nat) (x : Nat) : List Nat := if (2 * c.getLastD 0 + 1, 2 * x) ∈ g then c ++ [x] else c
def CC (n : Nat) (g : Flow) : Nat → List (List Nat)
  | 0 => []
  | m + 1 => (CC n g m).map (fun c => stepC g c m) ++ if (2 * n, 2 * m) ∈ g then [[m]] else []
def chainF (g : Flow) (m t : Nat) : List Nat := (List.range' (t + 1) (m - (t + 1))).foldl (stepC g) [t]
def chains (n : Nat) (g : Flow) (m : Nat) : List (List Nat) := ((List.range m).filter fun t => decide ((2 * n, 2 * t) ∈ g)).map (chainF g m)
theorem chains_eq : ∀ m, chains n g m = CC n g m
  | 0 => rfl
  | m + 1 => by
    unfold chains CC
    rw [List.range_succ, List.filter_append, List.map_append, ← chains_eq m]
    congr 1
    · unfold chains
      rw [List.map_map]
      refine List.map_congr_left fun t ht => ?_
      have ht := List.mem_range.mp (List.mem_filter.mp ht).1
      show chainF g (m + 1) t = stepC g (chainF g m t) m
      unfold chainF
      rw [show m + 1 - (t + 1) = (m - (t + 1)) + 1 by omega, List.range'_concat, List.foldl_append]
      show stepC g _ _ = _
      congr 1
      omega
    · by_cases h : (2 * n, 2 * m) ∈ g
      · rw [List.filter_cons, if_pos (decide_eq_true h), if_pos h]
        show [chainF g (m + 1) m] = _
        unfold chainF
        rw [show m + 1 - (m + 1) = 0 by omega]; rfl
      · rw [List.filter_cons, if_neg (by simpa using h), if_neg h]; rfl
def lst (c : List Nat) : Nat := c.getLastD 0
theorem lst_step (c : List Nat) (x : Nat) : lst (stepC g c x) = if (2 * lst c + 1, 2 * x) ∈ g then x else lst c := by
  unfold stepC
  show lst (if (2 * lst c + 1, 2 * x) ∈ g then _ else _) = _
  split
  · unfold lst; simp
  · rfl
theorem len_step (c : List Nat) (x : Nat) : (stepC g c x).length = c.length + if (2 * lst c + 1, 2 * x) ∈ g then 1 else 0 := by
  unfold stepC
  show (if (2 * lst c + 1, 2 * x) ∈ g then _ else _ : List Nat).length = _
  split
  · simp
  · rfl
def many (C : List (List Nat)) : Nat := (C.map List.length).sum
theorem many_step (x : Nat) : ∀ C : List (List Nat), many (C.map fun c => stepC g c x) = many C + C.countP fun c => decide ((2 * lst c + 1, 2 * x) ∈ g)
  | [] => rfl
  | c :: C => by
    have ih := many_step x C
    unfold many at ih ⊢
    rw [List.map_cons, List.map_cons, List.sum_cons, List.map_cons, List.sum_cons, ih, len_step, List.countP_cons]
    simp only [decide_eq_true_eq]
    omega
theorem CC_ok (F : FI bl n g) (hb : Low bl) : ∀ m, m ≤ n → many (CC n g m) = (List.range m).countP (fun t => decide ((2 * t, 2 * t + 1) ∈ g)) ∧ ∀ x, x < m → (2 * x, 2 * x + 1) ∈ g → (∀ y, x < y → y < m → (2 * x + 1, 2 * y) ∉ g) → (CC n g m).countP (fun c => decide (lst c = x)) = 1
  | 0, _ => ⟨rfl, fun x h => by omega⟩
  | m + 1, hm => by
    obtain ⟨ih1, ih2⟩ := CC_ok F hb m (by omega)
    have mn : m < n := by omega
    have key : ((CC n g m).countP fun c => decide ((2 * lst c + 1, 2 * m) ∈ g)) + (if (2 * n, 2 * m) ∈ g then 1 else 0) = if (2 * m, 2 * m + 1) ∈ g then 1 else 0 := by
      by_cases hg : (2 * m, 2 * m + 1) ∈ g
      · rw [if_pos hg]
        obtain ⟨x, hx⟩ := F.in_of_gate mn hg
        obtain ⟨w, hw⟩ := F.ar _ hx
        obtain ⟨r, hr, hh⟩ := mem_arcs.mp hw
        rcases hh with hh | hh | hh | ⟨l, hl, hh⟩ <;> injection hh with b1 b2 <;> injection b2 with b2 b3
        · have hx' : (2 * n, 2 * m) ∈ g := by rw [← b1]; exact hx
          rw [if_pos hx']
          have : ((CC n g m).countP fun c => decide ((2 * lst c + 1, 2 * m) ∈ g)) = 0 := List.countP_eq_zero.mpr fun c _ hc => by
            have hc := of_decide_eq_true hc
            have e := cnt_uniq F.nd (F.foot1 hb mn) hc hx' (decide_eq_true rfl) (decide_eq_true rfl)
            injection e with e _
            omega
          omega
        · omega
        · omega
        · have hx' : (2 * l + 1, 2 * m) ∈ g := by rw [← b1]; exact hx
          have rm : r = m := by omega
          subst rm
          have lm := hb r l hl
          have nS : (2 * n, 2 * r) ∉ g := fun z => by
            have e := cnt_uniq F.nd (F.foot1 hb mn) z hx' (decide_eq_true rfl) (decide_eq_true rfl)
            injection e with e _
            omega
          rw [if_neg nS]
          have one := ih2 l lm (F.gate_of_out hb (by omega) hx' rfl) fun y _ hy hin => by
            have e := cnt_uniq F.nd (F.head1 hb (show l < n by omega)) hin hx' (decide_eq_true rfl) (decide_eq_true rfl)
            injection e with _ e
            omega
          have e : ((CC n g r).countP fun c => decide ((2 * lst c + 1, 2 * r) ∈ g)) = (CC n g r).countP fun c => decide (lst c = l) := by
            apply List.countP_congr
            intro c _
            rw [decide_eq_true_iff, decide_eq_true_iff]
            constructor
            · intro z
              have e := cnt_uniq F.nd (F.foot1 hb mn) z hx' (decide_eq_true rfl) (decide_eq_true rfl)
              injection e with e _
              omega
            · intro z; rw [z]; exact hx'
          rw [e, one]
      · rw [if_neg hg]
        have no : ∀ x, (x, 2 * m) ∉ g := fun x hx => hg (F.gate_of_in hb mn hx rfl)
        rw [if_neg (no _)]
        have : ((CC n g m).countP fun c => decide ((2 * lst c + 1, 2 * m) ∈ g)) = 0 := List.countP_eq_zero.mpr fun c _ hc => no _ (of_decide_eq_true hc)
        omega
    refine ⟨?_, fun x hx hg hs => ?_⟩
    · unfold CC
      have ap : ∀ C D : List (List Nat), many (C ++ D) = many C + many D := fun C D => by unfold many; rw [List.map_append, List.sum_append]
      rw [ap, many_step, ih1, List.range_succ, List.countP_append, List.countP_singleton]
      simp only [decide_eq_true_eq]
      have e : many (if (2 * n, 2 * m) ∈ g then [[m]] else []) = if (2 * n, 2 * m) ∈ g then 1 else 0 := by split <;> rfl
      rw [e]
      omega
    · unfold CC
      rw [List.countP_append, List.countP_map]
      have e1 : (if (2 * n, 2 * m) ∈ g then [[m]] else [] : List (List Nat)).countP (fun c => decide (lst c = x)) = if (2 * n, 2 * m) ∈ g ∧ m = x then 1 else 0 := by
        by_cases h : (2 * n, 2 * m) ∈ g
        · rw [if_pos h, List.countP_singleton]
          by_cases q : m = x
          · rw [if_pos (by simpa [lst] using q), if_pos ⟨h, q⟩]
          · rw [if_neg (by simpa [lst] using q), if_neg fun z => q z.2]
        · rw [if_neg h, if_neg fun z => h z.1]; rfl
      rw [e1]
      by_cases q : x = m
      · subst q
        rw [if_pos hg] at key
        have e2 : (CC n g x).countP ((fun c => decide (lst c = x)) ∘ fun c => stepC g c x) = (CC n g x).countP fun c => decide ((2 * lst c + 1, 2 * x) ∈ g) := by
          apply List.countP_congr
          intro c hc
          simp only [Function.comp]
          rw [decide_eq_true_iff, decide_eq_true_iff, lst_step]
          constructor
          · intro z
            apply Classical.byContradiction
            intro z2
            rw [if_neg z2] at z
            have low : ∀ m', ∀ c ∈ CC n g m', lst c < m' := fun m' => by
              induction m' with
              | zero => intro c h; exact nomatch h
              | succ m' ih =>
                intro c h
                unfold CC at h
                rcases List.mem_append.mp h with h | h
                · obtain ⟨d, hd, rfl⟩ := List.mem_map.mp h
                  rw [lst_step]
                  have := ih d hd
                  split <;> omega
                · split at h
                  · rw [List.mem_singleton.mp h]; show m' < m' + 1; omega
                  · exact nomatch h
            have := low x c hc
            omega
          · intro z; rw [if_pos z]
        rw [e2]
        have : (if (2 * n, 2 * x) ∈ g ∧ x = x then 1 else 0) = if (2 * n, 2 * x) ∈ g then 1 else 0 := by
          by_cases h : (2 * n, 2 * x) ∈ g
          · rw [if_pos ⟨h, rfl⟩, if_pos h]
          · rw [if_neg fun z => h z.1, if_neg h]
        rw [this]
        exact key
      · rw [if_neg fun z => q z.2.symm]
        have e2 : (CC n g m).countP ((fun c => decide (lst c = x)) ∘ fun c => stepC g c m) = (CC n g m).countP fun c => decide (lst c = x) := by
          apply List.countP_congr
          intro c _
          simp only [Function.comp]
          rw [decide_eq_true_iff, decide_eq_true_iff, lst_step]
          constructor
          · intro z
            split at z
            · exact absurd z.symm q
            · exact z
          · intro z
            rw [if_neg (by rw [z]; exact hs m (by omega) (by omega))]; exact z
        rw [e2, ih2 x (by omega) hg fun y h1 h2 => hs y h1 (by omega)]
end
end Fl
namespace Fl
section
variable {bl : Nat → List Nat} {n : Nat} {g g' : Flow}
theorem val_eq (F : FI bl n g) (hb : Low bl) : val g = (List.range n).countP fun t => decide ((2 * t, 2 * t + 1) ∈ g) := by
  have e1 : val g = (g.filter isW).length := by unfold val; rw [List.countP_eq_length_filter]
  have e2 : ((List.range n).countP fun t => decide ((2 * t, 2 * t + 1) ∈ g)) = (((List.range n).filter fun t => decide ((2 * t, 2 * t + 1) ∈ g)).map fun t => (2 * t, 2 * t + 1)).length := by
    rw [List.length_map, List.countP_eq_length_filter]
  rw [e1, e2]
  apply List.Perm.length_eq
  refine (List.perm_ext_iff_of_nodup ?_ ?_).mpr fun p => ?_
  · exact F.nd.filter _
  · refine List.pairwise_map.mpr ((List.nodup_range.filter _).imp fun {a b} hab z => hab ?_)
    injection z with z1 _
    omega
  · rw [List.mem_filter, List.mem_map]
    constructor
    · rintro ⟨hp, hw⟩
      obtain ⟨w, h⟩ := F.ar p hp
      obtain ⟨t, ht, hh⟩ := mem_arcs.mp h
      have hw := of_decide_eq_true hw
      rcases hh with hh | hh | hh | ⟨l, hl, hh⟩ <;> injection hh with a1 a2 <;> injection a2 with a2 _
      · omega
      · have e : p = (2 * t, 2 * t + 1) := Prod.ext a1 a2
        exact ⟨t, List.mem_filter.mpr ⟨List.mem_range.mpr ht, decide_eq_true (e ▸ hp)⟩, e.symm⟩
      · omega
      · omega
    · rintro ⟨t, ht, rfl⟩
      have ht := List.mem_filter.mp ht
      exact ⟨of_decide_eq_true ht.2, decide_eq_true ⟨rfl, by omega⟩⟩
theorem many_val (F : FI bl n g) (hb : Low bl) : many (chains n g n) = val g := by
  rw [chains_eq, val_eq F hb, (CC_ok F hb n (Nat.le_refl _)).1]
theorem val_le (F : FI bl n g) (hb : Low bl) : val g ≤ n := by
  rw [val_eq F hb]
  have := List.countP_le_length (p := fun t => decide ((2 * t, 2 * t + 1) ∈ g)) (l := List.range n)
  rwa [List.length_range] at this
theorem val_lt (F : FI bl n g) (hb : Low bl) (h : val g < n) : ∃ t, t < n ∧ (2 * t, 2 * t + 1) ∉ g := by
  apply Classical.byContradiction
  intro z
  rw [val_eq F hb] at h
  have : ((List.range n).countP fun t => decide ((2 * t, 2 * t + 1) ∈ g)) = (List.range n).length := List.countP_eq_length.mpr fun t ht => decide_eq_true (Classical.byContradiction fun q => z ⟨t, List.mem_range.mp ht, q⟩)
  rw [List.length_range] at this
  omega
theorem fi_len (F : FI bl n g) : g.length ≤ (arcs bl n).length := by
  have := List.Nodup.length_le_of_subset (l₂ := (arcs bl n).map fun a => (a.1, a.2.1)) F.nd fun p hp => by
    obtain ⟨w, h⟩ := F.ar p hp
    exact List.mem_map.mpr ⟨_, h, rfl⟩
  rwa [List.length_map] at this
inductive Run (bl : Nat → List Nat) (n K : Nat) : Flow → Int → List (Flow × Mk) → Flow → Prop
  | done {g : Flow} {b : Int} : FI bl n g → val g = n → Run bl n K g b [] g
  | step {g g' ge : Flow} {b mz : Int} {s : Bs} {π : Nat → Int} {τ : Nat → Nat} {T : List (Flow × Mk)} : FI bl n g → val g < n → walk (opens bl n g) K (start (2 * n)) = some s → BW (opens bl n g) (2 * n) π s.M s.A τ → (∀ v, v < 2 * n + 2 → s.M v ≠ none) → s.M (2 * n + 1) = some mz → grw s.A K (2 * n + 1) g = some g' → 1 ≤ mz → mz ≤ b → (val g' : Int) = val g + mz → Run bl n K g' mz T ge → Run bl n K g b ((g, s.M) :: T) ge
theorem run_ex (hb : Low bl) {K : Nat} (hK : (2 * n + 2) * (n + 1) + 2 ≤ K) : ∀ (k : Nat) (g : Flow) (π : Nat → Int), n - val g ≤ k → FI bl n g → Feas (opens bl n g) π → (∀ v, π v - π (2 * n) ≤ (n : Int)) → ∃ T ge, Run bl n K g (π (2 * n + 1) - π (2 * n)) T ge
  | k, g, π, hk, F, fe, hU => by
    by_cases hv : val g = n
    · exact ⟨[], g, .done F hv⟩
    · have hv' : val g < n := by have := val_le F hb; omega
      obtain ⟨k, rfl⟩ : ∃ j, k = j + 1 := ⟨k - 1, by omega⟩
      have ne : ∀ a ∈ opens bl n g, a.1 ≠ a.2.1 := fun a ha => (open_ne hb ha).1
      have hN : ∀ a ∈ opens bl n g, a.2.1 < 2 * n + 2 := fun a ha => (open_ne hb ha).2
      obtain ⟨s, τ, hw, W⟩ := walk_ok (L := opens bl n g) (S := 2 * n) (U := n) (N := 2 * n + 2) fe ne opens_lows hN hU K (start (2 * n)) (fun _ => 0) 1 start_ok rfl (by have := start_tot (U := n) (S := 2 * n) (2 * n + 2); omega)
      obtain ⟨all, mz, hz, z1⟩ := reached F hb W (val_lt F hb hv')
      have KK : 2 * n + 2 < K := by
        have : (2 * n + 2) * 1 ≤ (2 * n + 2) * (n + 1) := Nat.mul_le_mul_left _ (by omega)
        omega
      obtain ⟨g', e, F', vl, n1, n2⟩ := grow_ok F hb W all KK hz
      have fe' := next_feas F hb W all n1 n2
      have sS : (s.M (2 * n)).getD 0 = 0 := by rw [W.s0]; rfl
      obtain ⟨T, ge, R⟩ := run_ex hb hK k g' (fun v => (s.M v).getD 0) (by omega) F' fe' fun v => by
        show (s.M v).getD 0 - (s.M (2 * n)).getD 0 ≤ _
        rw [sS]
        cases q : s.M v with
        | none => show (0 : Int) - 0 ≤ _; omega
        | some m => show m - 0 ≤ _; have := (W.hi v m q).2; have := hU v; omega
      have eb : (s.M (2 * n + 1)).getD 0 - (s.M (2 * n)).getD 0 = mz := by rw [sS, hz]; show mz - 0 = mz; omega
      change Run bl n K g' ((s.M (2 * n + 1)).getD 0 - (s.M (2 * n)).getD 0) T ge at R
      rw [eb] at R
      exact ⟨_, ge, .step F hv' hw W all hz e z1 (W.hi _ _ hz).2 vl R⟩
theorem run0 (hb : Low bl) {K : Nat} (hK : (2 * n + 2) * (n + 1) + 2 ≤ K) : ∃ T ge, Run bl n K [] (n : Int) T ge := by
  obtain ⟨T, ge, R⟩ := run_ex hb hK n [] (pi0 n) (by omega) fi0 (feas0 hb) pi0_le
  have : pi0 n (2 * n + 1) - pi0 n (2 * n) = n := by
    unfold pi0
    rw [if_pos rfl, if_neg (by omega), if_neg (by omega)]
    omega
  rw [this] at R
  exact ⟨T, ge, R⟩
def difs : List Int → List Int
  | [] => []
  | [_] => []
  | a :: b :: l => (b - a) :: difs (b :: l)
theorem difs_len : ∀ l : List Int, (difs l).length = l.length - 1
  | [] => rfl
  | [_] => rfl
  | a :: b :: l => by
    show (difs (b :: l)).length + 1 = _
    rw [difs_len (b :: l)]
    simp
theorem difs_eq : ∀ l : List Int, difs l = (List.range (l.length - 1)).map fun k => l.getD (k + 1) 0 - l.getD k 0
  | [] => rfl
  | [_] => rfl
  | a :: b :: l => by
    have ih := difs_eq (b :: l)
    show (b - a) :: difs (b :: l) = _
    rw [ih]
    rw [show (a :: b :: l).length - 1 = ((b :: l).length - 1) + 1 by simp, List.range_succ_eq_map, List.map_cons, List.map_map]
    rfl
def hld (T : List (Flow × Mk)) (ge : Flow) : List Int := (T.map fun p => (val p.1 : Int)) ++ [(val ge : Int)]
theorem hld_len (T : List (Flow × Mk)) (ge : Flow) : (hld T ge).length = T.length + 1 := by unfold hld; simp
theorem run_head {K : Nat} {b : Int} {T : List (Flow × Mk)} {ge : Flow} (R : Run bl n K g b T ge) : ∃ l, hld T ge = (val g : Int) :: l := by
  cases R with
  | done F hv => exact ⟨[], rfl⟩
  | step => exact ⟨_, rfl⟩
theorem run_difs {K : Nat} {b : Int} {T : List (Flow × Mk)} {ge : Flow} (R : Run bl n K g b T ge) : (∀ x ∈ difs (hld T ge), 1 ≤ x ∧ x ≤ b) ∧ (difs (hld T ge)).Pairwise (· ≥ ·) ∧ (difs (hld T ge)).sum = n - val g := by
  induction R with
  | done F hv => exact ⟨fun x h => (nomatch h), .nil, by show (0 : Int) = _; omega⟩
  | @step g g' ge b mz s π τ T F hv hw W all hz e z1 zb vl R ih =>
    obtain ⟨l, hl⟩ := run_head R
    have ed : difs (hld ((g, s.M) :: T) ge) = mz :: difs (hld T ge) := by
      show difs ((val g : Int) :: hld T ge) = _
      rw [hl]
      show ((val g' : Int) - val g) :: _ = _
      congr 1
      omega
    obtain ⟨i1, i2, i3⟩ := ih
    rw [ed]
    refine ⟨fun x hx => ?_, List.pairwise_cons.mpr ⟨fun x hx => (i1 x hx).2, i2⟩, ?_⟩
    · rcases List.mem_cons.mp hx with rfl | hx
      · exact ⟨z1, zb⟩
      · have := i1 x hx; omega
    · rw [List.sum_cons, i3]; omega
theorem run_len {K : Nat} {b : Int} {T : List (Flow × Mk)} {ge : Flow} (R : Run bl n K g b T ge) : T.length + val g ≤ n := by
  induction R with
  | done F hv => simp; omega
  | @step g g' ge b mz s π τ T F hv hw W all hz e z1 zb vl R ih => rw [List.length_cons]; omega
end
end Fl
namespace Com
open PySem L2 Bd
noncomputable section
def g_foot : En → Option Out :=
  (oSeq (oRet (b2 pMul (kC (.int 2)) (gSl 0)))
  oNil)
def m_foot : List PyData → Option Sl := mirror 1 g_foot
def g_head : En → Option Out :=
  (oSeq (oRet (b2 pAdd (dOf (b2 pMul (kC (.int 2)) (gSl 0))) (kC (.int 1))))
  oNil)
def m_head : List PyData → Option Sl := mirror 1 g_head
def g_source : En → Option Out :=
  (oSeq (oRet (b2 pMul (kC (.int 2)) (dOf (callD pLen (aCons (gSl 0) aNil)))))
  oNil)
def m_source : List PyData → Option Sl := mirror 1 g_source
def g_sink : En → Option Out :=
  (oSeq (oRet (b2 pAdd (dOf (b2 pMul (kC (.int 2)) (dOf (callD pLen (aCons (gSl 0) aNil))))) (kC (.int 1))))
  oNil)
def m_sink : List PyData → Option Sl := mirror 1 g_sink
def g_many_points : En → Option Out :=
  (oSeq (oRet (b2 pAdd (dOf (b2 pMul (kC (.int 2)) (dOf (callD pLen (aCons (gSl 0) aNil))))) (kC (.int 2))))
  oNil)
def m_many_points : List PyData → Option Sl := mirror 1 g_many_points
def g_arcs_of_b1 : En → Option Out :=
  (oSeq (oApp 1 (dOf (dTup (aCons (dOf (callD m_head (aCons (gFz 4) aNil))) (aCons (dOf (callD m_foot (aCons (gFz 2) aNil))) (aCons (kC (.int 0)) aNil))))))
  oNil)
def g_arcs_of_b2 : En → Option Out :=
  (oSeq (oApp 1 (dOf (dTup (aCons (dOf (callD m_source (aCons (gFz 0) aNil))) (aCons (dOf (callD m_foot (aCons (gFz 2) aNil))) (aCons (kC (.int 0)) aNil))))))
  (oSeq (oApp 1 (dOf (dTup (aCons (dOf (callD m_foot (aCons (gFz 2) aNil))) (aCons (dOf (callD m_head (aCons (gFz 2) aNil))) (aCons (kC (.int 1)) aNil))))))
  (oSeq (oApp 1 (dOf (dTup (aCons (dOf (callD m_head (aCons (gFz 2) aNil))) (aCons (dOf (callD m_sink (aCons (gFz 0) aNil))) (aCons (kC (.int 0)) aNil))))))
  (oSeq (oFor (iLst (gFz 3)) (gNm 4)
  g_arcs_of_b1)
  oNil))))
def g_arcs_of : En → Option Out :=
  (oSeq (oSet 1 (dLst aNil))
  (oSeq (oFor (iEnm (gFz 0)) (gTpl 2 (gsCons (gNm 2) (gsCons (gNm 3) gsNil)))
  g_arcs_of_b2)
  (oSeq (oRetV 1)
  oNil)))
def m_arcs_of : List PyData → Option Sl := mirror 5 g_arcs_of
def g_open_arcs_b1 : En → Option Out :=
  (oSeq (oSet 6 (fzOf (dOf (b2 pInD (dOf (dTup (aCons (gFz 3) (aCons (gFz 4) aNil)))) (gSl 1)))))
  (oSeq (oIf (bOr (bOf (b2 pEq (gSl 5) (kC (.int 0)))) (bNot (bTru (gSl 6))))
  (oSeq (oApp 2 (dOf (dTup (aCons (gFz 3) (aCons (gFz 4) (aCons (gFz 5) aNil))))))
  oNil)
  oNil)
  (oSeq (oIf (bTru (gSl 6))
  (oSeq (oApp 2 (dOf (dTup (aCons (gFz 4) (aCons (gFz 3) (aCons (dOf (vNeg (gSl 5))) aNil))))))
  oNil)
  oNil)
  oNil)))
def g_open_arcs : En → Option Out :=
  (oSeq (oSet 2 (dLst aNil))
  (oSeq (oFor (iLst (dOf (callD m_arcs_of (aCons (gFz 0) aNil)))) (gTpl 3 (gsCons (gNm 3) (gsCons (gNm 4) (gsCons (gNm 5) gsNil))))
  g_open_arcs_b1)
  (oSeq (oRetV 2)
  oNil)))
def m_open_arcs : List PyData → Option Sl := mirror 7 g_open_arcs
def g_is_better : En → Option Out :=
  (oSeq (oIf (bOf (b2 (pIsB false) (dOf (b2 pIx (gSl 0) (gSl 1))) (kC .none)))
  (oSeq (oRet (fzOf (kC (.bool false))))
  oNil)
  oNil)
  (oSeq (oRet (vOr (b2 (pIsB false) (dOf (b2 pIx (gSl 0) (gSl 2))) (kC .none)) (b2 pLt (dOf (b2 pIx (gSl 0) (gSl 2))) (dOf (b2 pAdd (dOf (b2 pIx (gSl 0) (gSl 1))) (gSl 3))))))
  oNil))
def m_is_better : List PyData → Option Sl := mirror 4 g_is_better
def g_best_ways_b1 : En → Option Out :=
  (oSeq (oIf (bTru (dOf (vLend 2 (callD m_is_better (aCons (gFz 2) (aCons (gFz 7) (aCons (gFz 8) (aCons (gFz 9) aNil))))))))
  (oSeq (oSetIx 2 (gSl 8) (dOf (b2 pAdd (dOf (b2 pIx (gSl 2) (gSl 7))) (gSl 9))))
  (oSeq (oSetIx 4 (gSl 8) (gFz 7))
  (oSeq (oSet 6 (fzOf (kC (.bool true))))
  oNil)))
  oNil)
  oNil)
def g_best_ways_b2 : En → Option Out :=
  (oSeq (oSet 6 (fzOf (kC (.bool false))))
  (oSeq (oFor (iLst (gFz 5)) (gTpl 3 (gsCons (gNm 7) (gsCons (gNm 8) (gsCons (gNm 9) gsNil))))
  g_best_ways_b1)
  oNil))
def g_best_ways : En → Option Out :=
  (oSeq (oSet 2 (vLc (iR1 (dOf (callD m_many_points (aCons (gFz 0) aNil)))) (gNm 3) bYes (kC .none) [3]))
  (oSeq (oSet 4 (vLc (iR1 (dOf (callD m_many_points (aCons (gFz 0) aNil)))) (gNm 3) bYes (kC .none) [3]))
  (oSeq (oSetIx 2 (dOf (callD m_source (aCons (gFz 0) aNil))) (kC (.int 0)))
  (oSeq (oSet 5 (fzOf (dOf (callD m_open_arcs (aCons (gFz 0) (aCons (gFz 1) aNil))))))
  (oSeq (oSet 6 (fzOf (kC (.bool true))))
  (oSeq (oWhile FUEL (bTru (gSl 6))
  g_best_ways_b2)
  (oSeq (oFrz 4 (oFrz 2 (oRet (dTup (aCons (gFz 2) (aCons (gFz 4) aNil))))))
  oNil)))))))
def m_best_ways : List PyData → Option Sl := mirror 10 g_best_ways
def gJ_grown_b1 : TM :=
  (tSeq1 (tLft (oSet 6 (fzOf (dOf (b2 pIx (gSl 2) (gSl 5))))))
  (tSeq1 (tLft (oSet 7 (fzOf (dOf (dTup (aCons (gFz 5) (aCons (gFz 6) aNil)))))))
  (tSeq1 (tIf1 (xTIn (gSl 7))
  (tSeq1 (tDel (gSl 7))
  tNil1)
  (tSeq1 (tPut2 (gFz 6) (gFz 5))
  tNil1))
  (tSeq1 (tLft (oSet 5 (fzOf (gFz 6))))
  tNil1))))
def gJ_grown : En → Gt → Option Gt :=
  (jSeq (tLft (oSet 5 (fzOf (dOf (callD m_sink (aCons (gFz 0) aNil))))))
  (jSeq (whileT (xTB (bOf (b2 (pIsB true) (dOf (b2 pIx (gSl 2) (gSl 5))) (kC .none)))) gJ_grown_b1 FUEL)
  jRet))
def m_grown : List PyData → Option Sl := mirrorJ 8 3 1 4 gJ_grown
def g_chain_from_b1 : En → Option Out :=
  (oSeq (oIf (bOf (b2 pInD (dOf (dTup (aCons (dOf (callD m_head (aCons (dOf (b2 pIx (gSl 3) (dOf (vNeg (kC (.int 1)))))) aNil))) (aCons (dOf (callD m_foot (aCons (gFz 4) aNil))) aNil)))) (gSl 1)))
  (oSeq (oApp 3 (gFz 4))
  oNil)
  oNil)
  oNil)
def g_chain_from : En → Option Out :=
  (oSeq (oSet 3 (dLst (aCons (gFz 2) aNil)))
  (oSeq (oFor (iR2 (dOf (b2 pAdd (gSl 2) (kC (.int 1)))) (dOf (callD pLen (aCons (gSl 0) aNil)))) (gNm 4)
  g_chain_from_b1)
  (oSeq (oRetV 3)
  oNil)))
def m_chain_from : List PyData → Option Sl := mirror 5 g_chain_from
def g_chains_in : En → Option Out :=
  (oSeq (oRet (vLc (iR1 (dOf (callD pLen (aCons (gSl 0) aNil)))) (gNm 2) (bOf (b2 pInD (dOf (dTup (aCons (dOf (callD m_source (aCons (gFz 0) aNil))) (aCons (dOf (callD m_foot (aCons (gFz 2) aNil))) aNil)))) (gSl 1))) (dOf (callD m_chain_from (aCons (gFz 0) (aCons (gFz 1) (aCons (gFz 2) aNil))))) [2]))
  oNil)
def m_chains_in : List PyData → Option Sl := mirror 3 g_chains_in
def g_many_held : En → Option Out :=
  (oSeq (oRet (callD pSum (aCons (dOf (vLc (iLst (gSl 0)) (gNm 1) bYes (dOf (callD pLen (aCons (gSl 1) aNil))) [1])) aNil)))
  oNil)
def m_many_held : List PyData → Option Sl := mirror 2 g_many_held
def g_stages_b1 : En → Option Out :=
  (oSeq (oUnp (dOf (callD m_best_ways (aCons (gFz 0) (aCons (gFz 2) aNil)))) (gTpl 2 (gsCons (gNm 4) (gsCons (gNm 5) gsNil))))
  (oSeq (oApp 1 (dOf (dTup (aCons (gFz 3) (aCons (gFz 4) aNil)))))
  (oSeq (oSet 2 (fzOf (dOf (callD m_grown (aCons (gFz 0) (aCons (gFz 2) (aCons (gFz 5) aNil)))))))
  (oSeq (oSet 3 (fzOf (dOf (callD m_chains_in (aCons (gFz 0) (aCons (gFz 2) aNil))))))
  oNil))))
def g_stages : En → Option Out :=
  (oSeq (oSet 1 (dLst aNil))
  (oSeq (oSet 2 (fzOf vDic0))
  (oSeq (oSet 3 (fzOf (dOf (dLst aNil))))
  (oSeq (oWhile FUEL (bOf (b2 pLt (dOf (callD m_many_held (aCons (gFz 3) aNil))) (dOf (callD pLen (aCons (gSl 0) aNil)))))
  g_stages_b1)
  (oSeq (oApp 1 (dOf (dTup (aCons (gFz 3) (aCons (dOf (vLc (iR1 (dOf (callD m_many_points (aCons (gFz 0) aNil)))) (gNm 6) bYes (kC (.int 0)) [6])) aNil)))))
  (oSeq (oRetV 1)
  oNil))))))
def m_stages : List PyData → Option Sl := mirror 7 g_stages
def g_bands : En → Option Out :=
  (oSeq (oSet 1 (fzOf (dOf (vLc (iLst (dOf (callD m_stages (aCons (gFz 0) aNil)))) (gTpl 2 (gsCons (gNm 2) (gsCons (gNm 3) gsNil))) bYes (dOf (callD m_many_held (aCons (gFz 2) aNil))) [2, 3]))))
  (oSeq (oRet (vLc (iR2 (kC (.int 1)) (dOf (callD pLen (aCons (gSl 1) aNil)))) (gNm 4) bYes (dOf (b2 pSub (dOf (b2 pIx (gSl 1) (gSl 4))) (dOf (b2 pIx (gSl 1) (dOf (b2 pSub (gSl 4) (kC (.int 1)))))))) [4]))
  oNil))
def m_bands : List PyData → Option Sl := mirror 5 g_bands
theorem u2 (i : Int) : mulB 2 i = true := mulB_l (by decide) (by decide)
theorem foot_s (t : Int) : m_foot [.int t] = some (.fz (.int (2 * t))) := by
  unfold m_foot mirror g_foot startE
  simp only [List.map_cons, List.map_nil, List.length_cons, List.length_nil, List.replicate, List.cons_append, List.nil_append, List.getElem?_cons_zero, List.getElem?_cons_succ, List.set_cons_succ, List.set_cons_zero, Nat.reduceSub, Nat.zero_add, Nat.reduceAdd, Option.map_some, Option.map_none, Option.bind_some, if_true, List.length_map, List.length_range, e_setE0, e_setES, e_dOf, e_fzOf, e_fz, e_ow, e_gSl0, e_gSlS, e_gFz0, e_gFzS, e_kC, e_aNil, e_aCons, e_dLst, e_dTup, e_b2, e_pI, e_pAddI, e_pAddL, e_callD, e_bOf, e_bNot, e_bTru, e_truB, e_bAnd, e_bOr, e_vAnd, e_bYes, e_pLenL, e_pLenT, e_pAbs, e_pListOf, e_pIxL, e_pIxT, e_vIsi, e_iLst, e_iEnm, e_gNm, e_oNil, e_oSeq, e_oSet, e_oRet, e_oIf, e_oFor, e_oFrz, e_vLc, e_frz0w, e_frz0f, e_frzS, e_wipeN, e_wipeC, e_oRetV, e_oApp, e_oExt, e_iOwn, e_iOwnE, e_gTpl2, e_pEqI, e_pNeI, e_pNeB, e_pEqB, e_vChain, e_vNeg, e_vRev, e_oInt, e_dSl, e_vNot, e_vOr, e_vLc2, e_isiL, e_isiI, e_isiB, e_isBB, e_oPar, e_oAug, e_oRevS, e_vIf, e_gGh, e_vRepL, e_pInt1B, e_oAugIx, e_mUnp, e_mPar2, e_mPar3, e_xTup, e_xLst, e_allN, e_allC, e_mDrp2, e_gTpl3, e_oSwap, e_vCallT, e_xCallO, e_mIns, e_mSetIx, e_vLend, e_flatO, e_flatFB, e_flatFI, e_isB, e_isNotBB, e_oUnp, e_iZp, e_oSetIxM, e_oIns, e_oWhile, e_xPV, e_xP, e_xPB, e_xPI, e_xV, e_xFz, e_x2, e_x2N, e_xB, e_xGix, e_mNil, e_mSeq, e_mIf, e_mRet, e_mSet, e_mGset, e_mGaug, e_mLft, e_mFor, e_mApp, e_gaNil, e_gaV, e_gaG, e_xCallG, Nat.reduceLT, Nat.reduceLeDiff, u2]
theorem head_s (t : Int) : m_head [.int t] = some (.fz (.int (2 * t + 1))) := by
  unfold m_head mirror g_head startE
  simp only [List.map_cons, List.map_nil, List.length_cons, List.length_nil, List.replicate, List.cons_append, List.nil_append, List.getElem?_cons_zero, List.getElem?_cons_succ, List.set_cons_succ, List.set_cons_zero, Nat.reduceSub, Nat.zero_add, Nat.reduceAdd, Option.map_some, Option.map_none, Option.bind_some, if_true, List.length_map, List.length_range, e_setE0, e_setES, e_dOf, e_fzOf, e_fz, e_ow, e_gSl0, e_gSlS, e_gFz0, e_gFzS, e_kC, e_aNil, e_aCons, e_dLst, e_dTup, e_b2, e_pI, e_pAddI, e_pAddL, e_callD, e_bOf, e_bNot, e_bTru, e_truB, e_bAnd, e_bOr, e_vAnd, e_bYes, e_pLenL, e_pLenT, e_pAbs, e_pListOf, e_pIxL, e_pIxT, e_vIsi, e_iLst, e_iEnm, e_gNm, e_oNil, e_oSeq, e_oSet, e_oRet, e_oIf, e_oFor, e_oFrz, e_vLc, e_frz0w, e_frz0f, e_frzS, e_wipeN, e_wipeC, e_oRetV, e_oApp, e_oExt, e_iOwn, e_iOwnE, e_gTpl2, e_pEqI, e_pNeI, e_pNeB, e_pEqB, e_vChain, e_vNeg, e_vRev, e_oInt, e_dSl, e_vNot, e_vOr, e_vLc2, e_isiL, e_isiI, e_isiB, e_isBB, e_oPar, e_oAug, e_oRevS, e_vIf, e_gGh, e_vRepL, e_pInt1B, e_oAugIx, e_mUnp, e_mPar2, e_mPar3, e_xTup, e_xLst, e_allN, e_allC, e_mDrp2, e_gTpl3, e_oSwap, e_vCallT, e_xCallO, e_mIns, e_mSetIx, e_vLend, e_flatO, e_flatFB, e_flatFI, e_isB, e_isNotBB, e_oUnp, e_iZp, e_oSetIxM, e_oIns, e_oWhile, e_xPV, e_xP, e_xPB, e_xPI, e_xV, e_xFz, e_x2, e_x2N, e_xB, e_xGix, e_mNil, e_mSeq, e_mIf, e_mRet, e_mSet, e_mGset, e_mGaug, e_mLft, e_mFor, e_mApp, e_gaNil, e_gaV, e_gaG, e_xCallG, Nat.reduceLT, Nat.reduceLeDiff, u2]
theorem source_s (o : List (List Int)) : m_source [.list (rows o)] = some (.fz (.int (2 * (o.length : Int)))) := by
  have lr : (rows o).length = o.length := by unfold rows; rw [List.length_map]
  unfold m_source mirror g_source startE
  simp only [List.map_cons, List.map_nil, List.length_cons, List.length_nil, List.replicate, List.cons_append, List.nil_append, List.getElem?_cons_zero, List.getElem?_cons_succ, List.set_cons_succ, List.set_cons_zero, Nat.reduceSub, Nat.zero_add, Nat.reduceAdd, Option.map_some, Option.map_none, Option.bind_some, if_true, List.length_map, List.length_range, e_setE0, e_setES, e_dOf, e_fzOf, e_fz, e_ow, e_gSl0, e_gSlS, e_gFz0, e_gFzS, e_kC, e_aNil, e_aCons, e_dLst, e_dTup, e_b2, e_pI, e_pAddI, e_pAddL, e_callD, e_bOf, e_bNot, e_bTru, e_truB, e_bAnd, e_bOr, e_vAnd, e_bYes, e_pLenL, e_pLenT, e_pAbs, e_pListOf, e_pIxL, e_pIxT, e_vIsi, e_iLst, e_iEnm, e_gNm, e_oNil, e_oSeq, e_oSet, e_oRet, e_oIf, e_oFor, e_oFrz, e_vLc, e_frz0w, e_frz0f, e_frzS, e_wipeN, e_wipeC, e_oRetV, e_oApp, e_oExt, e_iOwn, e_iOwnE, e_gTpl2, e_pEqI, e_pNeI, e_pNeB, e_pEqB, e_vChain, e_vNeg, e_vRev, e_oInt, e_dSl, e_vNot, e_vOr, e_vLc2, e_isiL, e_isiI, e_isiB, e_isBB, e_oPar, e_oAug, e_oRevS, e_vIf, e_gGh, e_vRepL, e_pInt1B, e_oAugIx, e_mUnp, e_mPar2, e_mPar3, e_xTup, e_xLst, e_allN, e_allC, e_mDrp2, e_gTpl3, e_oSwap, e_vCallT, e_xCallO, e_mIns, e_mSetIx, e_vLend, e_flatO, e_flatFB, e_flatFI, e_isB, e_isNotBB, e_oUnp, e_iZp, e_oSetIxM, e_oIns, e_oWhile, e_xPV, e_xP, e_xPB, e_xPI, e_xV, e_xFz, e_x2, e_x2N, e_xB, e_xGix, e_mNil, e_mSeq, e_mIf, e_mRet, e_mSet, e_mGset, e_mGaug, e_mLft, e_mFor, e_mApp, e_gaNil, e_gaV, e_gaG, e_xCallG, Nat.reduceLT, Nat.reduceLeDiff, u2, lr]
theorem sink_s (o : List (List Int)) : m_sink [.list (rows o)] = some (.fz (.int (2 * (o.length : Int) + 1))) := by
  have lr : (rows o).length = o.length := by unfold rows; rw [List.length_map]
  unfold m_sink mirror g_sink startE
  simp only [List.map_cons, List.map_nil, List.length_cons, List.length_nil, List.replicate, List.cons_append, List.nil_append, List.getElem?_cons_zero, List.getElem?_cons_succ, List.set_cons_succ, List.set_cons_zero, Nat.reduceSub, Nat.zero_add, Nat.reduceAdd, Option.map_some, Option.map_none, Option.bind_some, if_true, List.length_map, List.length_range, e_setE0, e_setES, e_dOf, e_fzOf, e_fz, e_ow, e_gSl0, e_gSlS, e_gFz0, e_gFzS, e_kC, e_aNil, e_aCons, e_dLst, e_dTup, e_b2, e_pI, e_pAddI, e_pAddL, e_callD, e_bOf, e_bNot, e_bTru, e_truB, e_bAnd, e_bOr, e_vAnd, e_bYes, e_pLenL, e_pLenT, e_pAbs, e_pListOf, e_pIxL, e_pIxT, e_vIsi, e_iLst, e_iEnm, e_gNm, e_oNil, e_oSeq, e_oSet, e_oRet, e_oIf, e_oFor, e_oFrz, e_vLc, e_frz0w, e_frz0f, e_frzS, e_wipeN, e_wipeC, e_oRetV, e_oApp, e_oExt, e_iOwn, e_iOwnE, e_gTpl2, e_pEqI, e_pNeI, e_pNeB, e_pEqB, e_vChain, e_vNeg, e_vRev, e_oInt, e_dSl, e_vNot, e_vOr, e_vLc2, e_isiL, e_isiI, e_isiB, e_isBB, e_oPar, e_oAug, e_oRevS, e_vIf, e_gGh, e_vRepL, e_pInt1B, e_oAugIx, e_mUnp, e_mPar2, e_mPar3, e_xTup, e_xLst, e_allN, e_allC, e_mDrp2, e_gTpl3, e_oSwap, e_vCallT, e_xCallO, e_mIns, e_mSetIx, e_vLend, e_flatO, e_flatFB, e_flatFI, e_isB, e_isNotBB, e_oUnp, e_iZp, e_oSetIxM, e_oIns, e_oWhile, e_xPV, e_xP, e_xPB, e_xPI, e_xV, e_xFz, e_x2, e_x2N, e_xB, e_xGix, e_mNil, e_mSeq, e_mIf, e_mRet, e_mSet, e_mGset, e_mGaug, e_mLft, e_mFor, e_mApp, e_gaNil, e_gaV, e_gaG, e_xCallG, Nat.reduceLT, Nat.reduceLeDiff, u2, lr]
theorem points_s (o : List (List Int)) : m_many_points [.list (rows o)] = some (.fz (.int (2 * (o.length : Int) + 2))) := by
  have lr : (rows o).length = o.length := by unfold rows; rw [List.length_map]
  unfold m_many_points mirror g_many_points startE
  simp only [List.map_cons, List.map_nil, List.length_cons, List.length_nil, List.replicate, List.cons_append, List.nil_append, List.getElem?_cons_zero, List.getElem?_cons_succ, List.set_cons_succ, List.set_cons_zero, Nat.reduceSub, Nat.zero_add, Nat.reduceAdd, Option.map_some, Option.map_none, Option.bind_some, if_true, List.length_map, List.length_range, e_setE0, e_setES, e_dOf, e_fzOf, e_fz, e_ow, e_gSl0, e_gSlS, e_gFz0, e_gFzS, e_kC, e_aNil, e_aCons, e_dLst, e_dTup, e_b2, e_pI, e_pAddI, e_pAddL, e_callD, e_bOf, e_bNot, e_bTru, e_truB, e_bAnd, e_bOr, e_vAnd, e_bYes, e_pLenL, e_pLenT, e_pAbs, e_pListOf, e_pIxL, e_pIxT, e_vIsi, e_iLst, e_iEnm, e_gNm, e_oNil, e_oSeq, e_oSet, e_oRet, e_oIf, e_oFor, e_oFrz, e_vLc, e_frz0w, e_frz0f, e_frzS, e_wipeN, e_wipeC, e_oRetV, e_oApp, e_oExt, e_iOwn, e_iOwnE, e_gTpl2, e_pEqI, e_pNeI, e_pNeB, e_pEqB, e_vChain, e_vNeg, e_vRev, e_oInt, e_dSl, e_vNot, e_vOr, e_vLc2, e_isiL, e_isiI, e_isiB, e_isBB, e_oPar, e_oAug, e_oRevS, e_vIf, e_gGh, e_vRepL, e_pInt1B, e_oAugIx, e_mUnp, e_mPar2, e_mPar3, e_xTup, e_xLst, e_allN, e_allC, e_mDrp2, e_gTpl3, e_oSwap, e_vCallT, e_xCallO, e_mIns, e_mSetIx, e_vLend, e_flatO, e_flatFB, e_flatFI, e_isB, e_isNotBB, e_oUnp, e_iZp, e_oSetIxM, e_oIns, e_oWhile, e_xPV, e_xP, e_xPB, e_xPI, e_xV, e_xFz, e_x2, e_x2N, e_xB, e_xGix, e_mNil, e_mSeq, e_mIf, e_mRet, e_mSet, e_mGset, e_mGaug, e_mLft, e_mFor, e_mApp, e_gaNil, e_gaV, e_gaG, e_xCallG, Nat.reduceLT, Nat.reduceLeDiff, u2, lr]
def bl (o : List (List Int)) (t : Nat) : List Nat := (o.getD t []).map Int.toNat
theorem low_of {o : List (List Int)} (h : IsOrd o) : Fl.Low (bl o) := fun t l hl => by
  unfold bl at hl
  obtain ⟨x, hx, rfl⟩ := List.mem_map.mp hl
  cases q : o[t]? with
  | none => rw [List.getD, q] at hx; exact nomatch hx
  | some r =>
    rw [List.getD, q] at hx
    have := ((h t r q).2.1 x hx)
    omega
def arcD (a : Fl.Arc) : PyData := .tuple [.int (a.1 : Int), .int (a.2.1 : Int), .int a.2.2]
theorem row_nn {o : List (List Int)} (h : IsOrd o) (t : Nat) : ∀ x ∈ o.getD t [], 0 ≤ x := fun x hx => by
  cases q : o[t]? with
  | none => rw [List.getD, q] at hx; exact nomatch hx
  | some r => rw [List.getD, q] at hx; exact ((h t r q).2.1 x hx).1
theorem row_len {o : List (List Int)} (h : IsOrd o) (hl : o.length ≤ 14) (t : Nat) : (o.getD t []).length ≤ 14 := by
  cases q : o[t]? with
  | none => rw [List.getD, q]; exact Nat.zero_le _
  | some r =>
    rw [List.getD, q]
    have hlt := (List.getElem?_eq_some_iff.mp q).1
    have h1 := h t r q
    have := nodup_bound t r (h1.1.imp fun h => Int.ne_of_lt h) h1.2.1
    exact Nat.le_trans this (by omega)
theorem arcs_len {o : List (List Int)} (h : IsOrd o) (hl : o.length ≤ 14) : ∀ m, m ≤ o.length → ((List.range m).flatMap (Fl.arcsT (bl o) o.length)).length ≤ m * 17
  | 0, _ => by simp
  | m + 1, hm => by
    have ih := arcs_len h hl m (by omega)
    rw [List.range_succ, List.flatMap_append, List.length_append]
    have : ([m].flatMap (Fl.arcsT (bl o) o.length)).length ≤ 17 := by
      rw [List.flatMap_singleton]
      unfold Fl.arcsT bl
      simp only [List.length_cons, List.length_map]
      have := row_len h hl m
      omega
    omega
theorem arcs_spec (o : List (List Int)) (h : IsOrd o) (hl : o.length ≤ 14) : m_arcs_of [.list (rows o)] = some (.ow ((Fl.arcs (bl o) o.length).map arcD)) := by
  have c0 : (0 : Nat) ≤ cap := Nat.zero_le _
  have c3 : (3 : Nat) ≤ cap := by rw [cap_eq]; decide
  have so := source_s o
  have sk := sink_s o
  have er := enum_rows o
  obtain ⟨Γ', lp, y2, y3, y4, rfl⟩ := forD_range (g := gTpl 2 (gsCons (gNm 2) (gsCons (gNm 3) gsNil))) (body := g_arcs_of_b2) (n := o.length) (emb := fun (i : Nat) => PyData.tuple [.int (i : Int), rowD (o.getD i [])])
    (fun k Γ => ∃ y2 y3 y4, Γ = [some (.fz (.list (rows o))), some (.ow (((List.range k).flatMap (Fl.arcsT (bl o) o.length)).map arcD)), y2, y3, y4])
    (fun t Γ ht hp => by
      obtain ⟨y2, y3, y4, rfl⟩ := hp
      have f1 := foot_s (t : Int)
      have f2 := head_s (t : Int)
      have al := arcs_len h hl t (by omega)
      generalize hA : ((List.range t).flatMap (Fl.arcsT (bl o) o.length)) = A at al
      have inner : ∀ (r : List Int), (∀ x ∈ r, 0 ≤ x) → ∀ (B : List Fl.Arc) (z4 : Option Sl), B.length + r.length ≤ 1000 → ∃ w4, forD (gNm 4) g_arcs_of_b1 (nums r) [some (.fz (.list (rows o))), some (.ow (B.map arcD)), some (.fz (.int (t : Int))), some (.fz (rowD (o.getD t []))), z4] = some (.nx [some (.fz (.list (rows o))), some (.ow ((B ++ (r.map Int.toNat).map fun l => ((2 * l + 1, 2 * t, 0) : Fl.Arc)).map arcD)), some (.fz (.int (t : Int))), some (.fz (rowD (o.getD t []))), w4]) := by
        intro r
        induction r with
        | nil => intro _ B z4 _; exact ⟨z4, by rw [List.map_nil, List.map_nil, List.append_nil]; rfl⟩
        | cons x r ih =>
          intro hx B z4 hB
          rw [List.length_cons] at hB
          have x0 := hx x List.mem_cons_self
          have f3 := head_s x
          have cB : B.length < cap := by rw [cap_eq]; omega
          have lB : (B.map arcD).length = B.length := List.length_map ..
          obtain ⟨w4, e⟩ := ih (fun y hy => hx y (List.mem_cons_of_mem _ hy)) (B ++ [(2 * x.toNat + 1, 2 * t, 0)]) (some (.fz (.int x))) (by rw [List.length_append, List.length_singleton]; omega)
          refine ⟨w4, ?_⟩
          have ap : B.map arcD ++ [PyData.tuple [.int (2 * x + 1), .int (2 * (t : Int)), .int 0]] = (B ++ [((2 * x.toNat + 1, 2 * t, 0) : Fl.Arc)]).map arcD := by
            rw [List.map_append]
            congr 1
            show _ = [PyData.tuple [.int ((2 * x.toNat + 1 : Nat) : Int), .int ((2 * t : Nat) : Int), .int 0]]
            rw [show ((2 * x.toNat + 1 : Nat) : Int) = 2 * x + 1 by omega, show ((2 * t : Nat) : Int) = 2 * (t : Int) by omega]
          have s : g_arcs_of_b1 [some (.fz (.list (rows o))), some (.ow (B.map arcD)), some (.fz (.int (t : Int))), some (.fz (rowD (o.getD t []))), some (.fz (.int x))] = some (.nx [some (.fz (.list (rows o))), some (.ow ((B ++ [((2 * x.toNat + 1, 2 * t, 0) : Fl.Arc)]).map arcD)), some (.fz (.int (t : Int))), some (.fz (rowD (o.getD t []))), some (.fz (.int x))]) := by
            unfold g_arcs_of_b1
            generalize m_head = q1 at f3
            generalize m_foot = q2 at f1
            generalize (B ++ [((2 * x.toNat + 1, 2 * t, 0) : Fl.Arc)]).map arcD = B2 at ap
            generalize B.map arcD = B1 at ap lB
            simp only [List.map_cons, List.map_nil, List.length_cons, List.length_nil, List.replicate, List.cons_append, List.nil_append, List.getElem?_cons_zero, List.getElem?_cons_succ, List.set_cons_succ, List.set_cons_zero, Nat.reduceSub, Nat.zero_add, Nat.reduceAdd, Option.map_some, Option.map_none, Option.bind_some, if_true, List.length_map, List.length_range, e_setE0, e_setES, e_dOf, e_fzOf, e_fz, e_ow, e_gSl0, e_gSlS, e_gFz0, e_gFzS, e_kC, e_aNil, e_aCons, e_dLst, e_dTup, e_b2, e_pI, e_pAddI, e_pAddL, e_callD, e_bOf, e_bNot, e_bTru, e_truB, e_bAnd, e_bOr, e_vAnd, e_bYes, e_pLenL, e_pLenT, e_pAbs, e_pListOf, e_pIxL, e_pIxT, e_vIsi, e_iLst, e_iEnm, e_gNm, e_oNil, e_oSeq, e_oSet, e_oRet, e_oIf, e_oFor, e_oFrz, e_vLc, e_frz0w, e_frz0f, e_frzS, e_wipeN, e_wipeC, e_oRetV, e_oApp, e_oExt, e_iOwn, e_iOwnE, e_gTpl2, e_pEqI, e_pNeI, e_pNeB, e_pEqB, e_vChain, e_vNeg, e_vRev, e_oInt, e_dSl, e_vNot, e_vOr, e_vLc2, e_isiL, e_isiI, e_isiB, e_isBB, e_oPar, e_oAug, e_oRevS, e_vIf, e_gGh, e_vRepL, e_pInt1B, e_oAugIx, e_mUnp, e_mPar2, e_mPar3, e_xTup, e_xLst, e_allN, e_allC, e_mDrp2, e_gTpl3, e_oSwap, e_vCallT, e_xCallO, e_mIns, e_mSetIx, e_vLend, e_flatO, e_flatFB, e_flatFI, e_isB, e_isNotBB, e_oUnp, e_iZp, e_oSetIxM, e_oIns, e_oWhile, e_xPV, e_xP, e_xPB, e_xPI, e_xV, e_xFz, e_x2, e_x2N, e_xB, e_xGix, e_mNil, e_mSeq, e_mIf, e_mRet, e_mSet, e_mGset, e_mGaug, e_mLft, e_mFor, e_mApp, e_gaNil, e_gaV, e_gaG, e_xCallG, Nat.reduceLT, Nat.reduceLeDiff, f3, f1, c3, lB, cB, ap]
          show forD (gNm 4) g_arcs_of_b1 (.int x :: nums r) _ = _
          unfold forD
          generalize g_arcs_of_b1 = b1 at s e
          simp only [List.map_cons, List.map_nil, List.length_cons, List.length_nil, List.replicate, List.cons_append, List.nil_append, List.getElem?_cons_zero, List.getElem?_cons_succ, List.set_cons_succ, List.set_cons_zero, Nat.reduceSub, Nat.zero_add, Nat.reduceAdd, Option.map_some, Option.map_none, Option.bind_some, if_true, List.length_map, List.length_range, e_setE0, e_setES, e_dOf, e_fzOf, e_fz, e_ow, e_gSl0, e_gSlS, e_gFz0, e_gFzS, e_kC, e_aNil, e_aCons, e_dLst, e_dTup, e_b2, e_pI, e_pAddI, e_pAddL, e_callD, e_bOf, e_bNot, e_bTru, e_truB, e_bAnd, e_bOr, e_vAnd, e_bYes, e_pLenL, e_pLenT, e_pAbs, e_pListOf, e_pIxL, e_pIxT, e_vIsi, e_iLst, e_iEnm, e_gNm, e_oNil, e_oSeq, e_oSet, e_oRet, e_oIf, e_oFor, e_oFrz, e_vLc, e_frz0w, e_frz0f, e_frzS, e_wipeN, e_wipeC, e_oRetV, e_oApp, e_oExt, e_iOwn, e_iOwnE, e_gTpl2, e_pEqI, e_pNeI, e_pNeB, e_pEqB, e_vChain, e_vNeg, e_vRev, e_oInt, e_dSl, e_vNot, e_vOr, e_vLc2, e_isiL, e_isiI, e_isiB, e_isBB, e_oPar, e_oAug, e_oRevS, e_vIf, e_gGh, e_vRepL, e_pInt1B, e_oAugIx, e_mUnp, e_mPar2, e_mPar3, e_xTup, e_xLst, e_allN, e_allC, e_mDrp2, e_gTpl3, e_oSwap, e_vCallT, e_xCallO, e_mIns, e_mSetIx, e_vLend, e_flatO, e_flatFB, e_flatFI, e_isB, e_isNotBB, e_oUnp, e_iZp, e_oSetIxM, e_oIns, e_oWhile, e_xPV, e_xP, e_xPB, e_xPI, e_xV, e_xFz, e_x2, e_x2N, e_xB, e_xGix, e_mNil, e_mSeq, e_mIf, e_mRet, e_mSet, e_mGset, e_mGaug, e_mLft, e_mFor, e_mApp, e_gaNil, e_gaV, e_gaG, e_xCallG, Nat.reduceLT, Nat.reduceLeDiff, s]
          rw [e]
          congr 5
          simp
      obtain ⟨w4, e4⟩ := inner (o.getD t []) (row_nn h t) (A ++ [(2 * o.length, 2 * t, 0), (2 * t, 2 * t + 1, 1), (2 * t + 1, 2 * o.length + 1, 0)]) y4 (by have := row_len h hl t; rw [List.length_append]; show A.length + 3 + _ ≤ 1000; omega)
      refine ⟨_, ?_, some (.fz (.int (t : Int))), some (.fz (rowD (o.getD t []))), w4, rfl⟩
      have cA : A.length + 2 < cap := by rw [cap_eq]; omega
      have cA0 : A.length < cap := by omega
      have cA1 : A.length + 1 < cap := by omega
      have lA : (A.map arcD).length = A.length := List.length_map ..
      have ap3 : A.map arcD ++ [PyData.tuple [.int (2 * (o.length : Int)), .int (2 * (t : Int)), .int 0]] ++ [PyData.tuple [.int (2 * (t : Int)), .int (2 * (t : Int) + 1), .int 1]] ++ [PyData.tuple [.int (2 * (t : Int) + 1), .int (2 * (o.length : Int) + 1), .int 0]] = (A ++ [((2 * o.length, 2 * t, 0) : Fl.Arc), (2 * t, 2 * t + 1, 1), (2 * t + 1, 2 * o.length + 1, 0)]).map arcD := by
        rw [List.map_append, List.append_assoc, List.append_assoc]
        congr 1
      have fin : (A ++ [((2 * o.length, 2 * t, 0) : Fl.Arc), (2 * t, 2 * t + 1, 1), (2 * t + 1, 2 * o.length + 1, 0)]) ++ ((o.getD t []).map Int.toNat).map (fun l => ((2 * l + 1, 2 * t, 0) : Fl.Arc)) = (List.range (t + 1)).flatMap (Fl.arcsT (bl o) o.length) := by
        rw [List.range_succ, List.flatMap_append, hA, List.flatMap_singleton, List.append_assoc]
        congr 1
      rw [fin] at e4
      unfold g_arcs_of_b2
      unfold rowD at e4 ⊢
      generalize m_source = q1 at so
      generalize m_sink = q2 at sk
      generalize m_foot = q3 at f1
      generalize m_head = q4 at f2
      generalize g_arcs_of_b1 = q5 at e4
      generalize (A ++ [((2 * o.length, 2 * t, 0) : Fl.Arc), (2 * t, 2 * t + 1, 1), (2 * t + 1, 2 * o.length + 1, 0)]).map arcD = A3 at ap3 e4
      generalize ((List.range (t + 1)).flatMap (Fl.arcsT (bl o) o.length)).map arcD = A4 at e4
      generalize A.map arcD = A1 at ap3 lA
      generalize rows o = RO at so sk e4
      simp only [List.map_cons, List.map_nil, List.length_cons, List.length_nil, List.replicate, List.cons_append, List.nil_append, List.getElem?_cons_zero, List.getElem?_cons_succ, List.set_cons_succ, List.set_cons_zero, Nat.reduceSub, Nat.zero_add, Nat.reduceAdd, Option.map_some, Option.map_none, Option.bind_some, if_true, List.length_map, List.length_range, e_setE0, e_setES, e_dOf, e_fzOf, e_fz, e_ow, e_gSl0, e_gSlS, e_gFz0, e_gFzS, e_kC, e_aNil, e_aCons, e_dLst, e_dTup, e_b2, e_pI, e_pAddI, e_pAddL, e_callD, e_bOf, e_bNot, e_bTru, e_truB, e_bAnd, e_bOr, e_vAnd, e_bYes, e_pLenL, e_pLenT, e_pAbs, e_pListOf, e_pIxL, e_pIxT, e_vIsi, e_iLst, e_iEnm, e_gNm, e_oNil, e_oSeq, e_oSet, e_oRet, e_oIf, e_oFor, e_oFrz, e_vLc, e_frz0w, e_frz0f, e_frzS, e_wipeN, e_wipeC, e_oRetV, e_oApp, e_oExt, e_iOwn, e_iOwnE, e_gTpl2, e_pEqI, e_pNeI, e_pNeB, e_pEqB, e_vChain, e_vNeg, e_vRev, e_oInt, e_dSl, e_vNot, e_vOr, e_vLc2, e_isiL, e_isiI, e_isiB, e_isBB, e_oPar, e_oAug, e_oRevS, e_vIf, e_gGh, e_vRepL, e_pInt1B, e_oAugIx, e_mUnp, e_mPar2, e_mPar3, e_xTup, e_xLst, e_allN, e_allC, e_mDrp2, e_gTpl3, e_oSwap, e_vCallT, e_xCallO, e_mIns, e_mSetIx, e_vLend, e_flatO, e_flatFB, e_flatFI, e_isB, e_isNotBB, e_oUnp, e_iZp, e_oSetIxM, e_oIns, e_oWhile, e_xPV, e_xP, e_xPB, e_xPI, e_xV, e_xFz, e_x2, e_x2N, e_xB, e_xGix, e_mNil, e_mSeq, e_mIf, e_mRet, e_mSet, e_mGset, e_mGaug, e_mLft, e_mFor, e_mApp, e_gaNil, e_gaV, e_gaG, e_xCallG, Nat.reduceLT, Nat.reduceLeDiff, so, sk, f1, f2, c3, lA, cA0, cA1, cA, List.length_append, ap3, e4]) [some (.fz (.list (rows o))), some (.ow []), none, none, none] ⟨none, none, none, rfl⟩
  unfold m_arcs_of mirror g_arcs_of startE
  rw [← er] at lp
  generalize g_arcs_of_b2 = b2 at lp
  simp only [List.map_cons, List.map_nil, List.length_cons, List.length_nil, List.replicate, List.cons_append, List.nil_append, List.getElem?_cons_zero, List.getElem?_cons_succ, List.set_cons_succ, List.set_cons_zero, Nat.reduceSub, Nat.zero_add, Nat.reduceAdd, Option.map_some, Option.map_none, Option.bind_some, if_true, List.length_map, List.length_range, e_setE0, e_setES, e_dOf, e_fzOf, e_fz, e_ow, e_gSl0, e_gSlS, e_gFz0, e_gFzS, e_kC, e_aNil, e_aCons, e_dLst, e_dTup, e_b2, e_pI, e_pAddI, e_pAddL, e_callD, e_bOf, e_bNot, e_bTru, e_truB, e_bAnd, e_bOr, e_vAnd, e_bYes, e_pLenL, e_pLenT, e_pAbs, e_pListOf, e_pIxL, e_pIxT, e_vIsi, e_iLst, e_iEnm, e_gNm, e_oNil, e_oSeq, e_oSet, e_oRet, e_oIf, e_oFor, e_oFrz, e_vLc, e_frz0w, e_frz0f, e_frzS, e_wipeN, e_wipeC, e_oRetV, e_oApp, e_oExt, e_iOwn, e_iOwnE, e_gTpl2, e_pEqI, e_pNeI, e_pNeB, e_pEqB, e_vChain, e_vNeg, e_vRev, e_oInt, e_dSl, e_vNot, e_vOr, e_vLc2, e_isiL, e_isiI, e_isiB, e_isBB, e_oPar, e_oAug, e_oRevS, e_vIf, e_gGh, e_vRepL, e_pInt1B, e_oAugIx, e_mUnp, e_mPar2, e_mPar3, e_xTup, e_xLst, e_allN, e_allC, e_mDrp2, e_gTpl3, e_oSwap, e_vCallT, e_xCallO, e_mIns, e_mSetIx, e_vLend, e_flatO, e_flatFB, e_flatFI, e_isB, e_isNotBB, e_oUnp, e_iZp, e_oSetIxM, e_oIns, e_oWhile, e_xPV, e_xP, e_xPB, e_xPI, e_xV, e_xFz, e_x2, e_x2N, e_xB, e_xGix, e_mNil, e_mSeq, e_mIf, e_mRet, e_mSet, e_mGset, e_mGaug, e_mLft, e_mFor, e_mApp, e_gaNil, e_gaV, e_gaG, e_xCallG, Nat.reduceLT, Nat.reduceLeDiff, c0, lp]
  rfl
def gI (g : Fl.Flow) : List (Int × Int) := g.map fun p => ((p.1 : Int), (p.2 : Int))
def flD (g : Fl.Flow) : PyData := .dict (dicD (gI g))
theorem mem_gI (g : Fl.Flow) (a b : Nat) : (((a : Int), (b : Int)) ∈ gI g) ↔ (a, b) ∈ g := by
  unfold gI
  rw [List.mem_map]
  constructor
  · rintro ⟨p, hp, e⟩
    injection e with e1 e2
    have : p = (a, b) := Prod.ext (by omega) (by omega)
    rw [← this]; exact hp
  · intro h; exact ⟨_, h, rfl⟩
theorem pIn_fl (g : Fl.Flow) (a b : Nat) : pInD (.tuple [.int (a : Int), .int (b : Int)]) (flD g) = some (.fz (.bool (decide ((a, b) ∈ g)))) := by
  show (undic (dicD (gI g))).map _ = _
  rw [undic_dic]
  show some (Sl.fz (.bool (decide _))) = _
  congr 4
  exact propext (mem_gI g a b)
theorem opens_spec (o : List (List Int)) (h : IsOrd o) (hl : o.length ≤ 14) (g : Fl.Flow) : m_open_arcs [.list (rows o), flD g] = some (.ow ((Fl.opens (bl o) o.length g).map arcD)) := by
  have c0 : (0 : Nat) ≤ cap := Nat.zero_le _
  have c2 : (2 : Nat) ≤ cap := by rw [cap_eq]; decide
  have c3 : (3 : Nat) ≤ cap := by rw [cap_eq]; decide
  have as := arcs_spec o h hl
  have al : (Fl.arcs (bl o) o.length).length ≤ 14 * 17 := Nat.le_trans (arcs_len h hl o.length (Nat.le_refl _)) (by omega)
  have lp : ∀ (L : List Fl.Arc) (B : List Fl.Arc) (y3 y4 y5 y6 : Option Sl), B.length + 2 * L.length ≤ 1000 → ∃ z3 z4 z5 z6, forD (gTpl 3 (gsCons (gNm 3) (gsCons (gNm 4) (gsCons (gNm 5) gsNil)))) g_open_arcs_b1 (L.map arcD) [some (.fz (.list (rows o))), some (.fz (flD g)), some (.ow (B.map arcD)), y3, y4, y5, y6] = some (.nx [some (.fz (.list (rows o))), some (.fz (flD g)), some (.ow ((B ++ L.flatMap (Fl.opn g)).map arcD)), z3, z4, z5, z6]) := by
    intro L
    induction L with
    | nil => intro B y3 y4 y5 y6 _; exact ⟨y3, y4, y5, y6, by rw [List.flatMap_nil, List.append_nil]; rfl⟩
    | cons a L ih =>
      intro B y3 y4 y5 y6 hB
      rw [List.length_cons] at hB
      have lo : (Fl.opn g a).length ≤ 2 := by
        unfold Fl.opn
        rw [List.length_append]
        have e1 : (if a.2.2 = 0 ∨ (a.1, a.2.1) ∉ g then [a] else []).length ≤ 1 := by split <;> simp
        have e2 : (if (a.1, a.2.1) ∈ g then [((a.2.1, a.1, -a.2.2) : Fl.Arc)] else []).length ≤ 1 := by split <;> simp
        omega
      obtain ⟨z3, z4, z5, z6, e⟩ := ih (B ++ Fl.opn g a) (some (.fz (.int (a.1 : Int)))) (some (.fz (.int (a.2.1 : Int)))) (some (.fz (.int a.2.2))) (some (.fz (.bool (decide ((a.1, a.2.1) ∈ g))))) (by rw [List.length_append]; omega)
      refine ⟨z3, z4, z5, z6, ?_⟩
      have pi := pIn_fl g a.1 a.2.1
      have cB : B.length < cap := by rw [cap_eq]; omega
      have cB1 : B.length + 1 < cap := by rw [cap_eq]; omega
      have lB : (B.map arcD).length = B.length := List.length_map ..
      have s : g_open_arcs_b1 [some (.fz (.list (rows o))), some (.fz (flD g)), some (.ow (B.map arcD)), some (.fz (.int (a.1 : Int))), some (.fz (.int (a.2.1 : Int))), some (.fz (.int a.2.2)), y6] = some (.nx [some (.fz (.list (rows o))), some (.fz (flD g)), some (.ow ((B ++ Fl.opn g a).map arcD)), some (.fz (.int (a.1 : Int))), some (.fz (.int (a.2.1 : Int))), some (.fz (.int a.2.2)), some (.fz (.bool (decide ((a.1, a.2.1) ∈ g))))]) := by
        have fwd : PyData.tuple [.int (a.1 : Int), .int (a.2.1 : Int), .int a.2.2] = arcD a := rfl
        have bwd : PyData.tuple [.int (a.2.1 : Int), .int (a.1 : Int), .int (-a.2.2)] = arcD (a.2.1, a.1, -a.2.2) := rfl
        unfold g_open_arcs_b1
        by_cases hin : (a.1, a.2.1) ∈ g
        · rw [decide_eq_true hin] at pi ⊢
          by_cases hw : a.2.2 = 0
          · have e0 : (a.2.2 == 0) = true := by simpa using hw
            have ap : B.map arcD ++ [arcD a] ++ [arcD (a.2.1, a.1, -a.2.2)] = (B ++ Fl.opn g a).map arcD := by
              unfold Fl.opn
              rw [if_pos (.inl hw), if_pos hin, List.map_append, List.append_assoc]; rfl
            generalize (B ++ Fl.opn g a).map arcD = B2 at ap
            generalize B.map arcD = B1 at ap lB
            generalize flD g = G at pi
            simp only [List.map_cons, List.map_nil, List.length_cons, List.length_nil, List.replicate, List.cons_append, List.nil_append, List.getElem?_cons_zero, List.getElem?_cons_succ, List.set_cons_succ, List.set_cons_zero, Nat.reduceSub, Nat.zero_add, Nat.reduceAdd, Option.map_some, Option.map_none, Option.bind_some, if_true, List.length_map, List.length_range, e_setE0, e_setES, e_dOf, e_fzOf, e_fz, e_ow, e_gSl0, e_gSlS, e_gFz0, e_gFzS, e_kC, e_aNil, e_aCons, e_dLst, e_dTup, e_b2, e_pI, e_pAddI, e_pAddL, e_callD, e_bOf, e_bNot, e_bTru, e_truB, e_bAnd, e_bOr, e_vAnd, e_bYes, e_pLenL, e_pLenT, e_pAbs, e_pListOf, e_pIxL, e_pIxT, e_vIsi, e_iLst, e_iEnm, e_gNm, e_oNil, e_oSeq, e_oSet, e_oRet, e_oIf, e_oFor, e_oFrz, e_vLc, e_frz0w, e_frz0f, e_frzS, e_wipeN, e_wipeC, e_oRetV, e_oApp, e_oExt, e_iOwn, e_iOwnE, e_gTpl2, e_pEqI, e_pNeI, e_pNeB, e_pEqB, e_vChain, e_vNeg, e_vRev, e_oInt, e_dSl, e_vNot, e_vOr, e_vLc2, e_isiL, e_isiI, e_isiB, e_isBB, e_oPar, e_oAug, e_oRevS, e_vIf, e_gGh, e_vRepL, e_pInt1B, e_oAugIx, e_mUnp, e_mPar2, e_mPar3, e_xTup, e_xLst, e_allN, e_allC, e_mDrp2, e_gTpl3, e_oSwap, e_vCallT, e_xCallO, e_mIns, e_mSetIx, e_vLend, e_flatO, e_flatFB, e_flatFI, e_isB, e_isNotBB, e_oUnp, e_iZp, e_oSetIxM, e_oIns, e_oWhile, e_xPV, e_xP, e_xPB, e_xPI, e_xV, e_xFz, e_x2, e_x2N, e_xB, e_xGix, e_mNil, e_mSeq, e_mIf, e_mRet, e_mSet, e_mGset, e_mGaug, e_mLft, e_mFor, e_mApp, e_gaNil, e_gaV, e_gaG, e_xCallG, Nat.reduceLT, Nat.reduceLeDiff, c2, pi, e0, c3, lB, cB, cB1, List.length_append, fwd, bwd, ap]
          · have e0 : (a.2.2 == 0) = false := by simpa using hw
            have ap : B.map arcD ++ [arcD (a.2.1, a.1, -a.2.2)] = (B ++ Fl.opn g a).map arcD := by
              unfold Fl.opn
              rw [if_neg (fun z => z.elim hw fun q => q hin), if_pos hin, List.map_append]; rfl
            generalize (B ++ Fl.opn g a).map arcD = B2 at ap
            generalize B.map arcD = B1 at ap lB
            generalize flD g = G at pi
            simp only [List.map_cons, List.map_nil, List.length_cons, List.length_nil, List.replicate, List.cons_append, List.nil_append, List.getElem?_cons_zero, List.getElem?_cons_succ, List.set_cons_succ, List.set_cons_zero, Nat.reduceSub, Nat.zero_add, Nat.reduceAdd, Option.map_some, Option.map_none, Option.bind_some, if_true, List.length_map, List.length_range, e_setE0, e_setES, e_dOf, e_fzOf, e_fz, e_ow, e_gSl0, e_gSlS, e_gFz0, e_gFzS, e_kC, e_aNil, e_aCons, e_dLst, e_dTup, e_b2, e_pI, e_pAddI, e_pAddL, e_callD, e_bOf, e_bNot, e_bTru, e_truB, e_bAnd, e_bOr, e_vAnd, e_bYes, e_pLenL, e_pLenT, e_pAbs, e_pListOf, e_pIxL, e_pIxT, e_vIsi, e_iLst, e_iEnm, e_gNm, e_oNil, e_oSeq, e_oSet, e_oRet, e_oIf, e_oFor, e_oFrz, e_vLc, e_frz0w, e_frz0f, e_frzS, e_wipeN, e_wipeC, e_oRetV, e_oApp, e_oExt, e_iOwn, e_iOwnE, e_gTpl2, e_pEqI, e_pNeI, e_pNeB, e_pEqB, e_vChain, e_vNeg, e_vRev, e_oInt, e_dSl, e_vNot, e_vOr, e_vLc2, e_isiL, e_isiI, e_isiB, e_isBB, e_oPar, e_oAug, e_oRevS, e_vIf, e_gGh, e_vRepL, e_pInt1B, e_oAugIx, e_mUnp, e_mPar2, e_mPar3, e_xTup, e_xLst, e_allN, e_allC, e_mDrp2, e_gTpl3, e_oSwap, e_vCallT, e_xCallO, e_mIns, e_mSetIx, e_vLend, e_flatO, e_flatFB, e_flatFI, e_isB, e_isNotBB, e_oUnp, e_iZp, e_oSetIxM, e_oIns, e_oWhile, e_xPV, e_xP, e_xPB, e_xPI, e_xV, e_xFz, e_x2, e_x2N, e_xB, e_xGix, e_mNil, e_mSeq, e_mIf, e_mRet, e_mSet, e_mGset, e_mGaug, e_mLft, e_mFor, e_mApp, e_gaNil, e_gaV, e_gaG, e_xCallG, Nat.reduceLT, Nat.reduceLeDiff, c2, pi, e0, c3, lB, cB, Bool.not_true, bwd, ap]
        · rw [decide_eq_false hin] at pi ⊢
          have ap : B.map arcD ++ [arcD a] = (B ++ Fl.opn g a).map arcD := by
            unfold Fl.opn
            rw [if_pos (.inr hin), if_neg hin, List.map_append]; rfl
          generalize (B ++ Fl.opn g a).map arcD = B2 at ap
          generalize B.map arcD = B1 at ap lB
          generalize flD g = G at pi
          by_cases hw : a.2.2 = 0
          · have e0 : (a.2.2 == 0) = true := by simpa using hw
            simp only [List.map_cons, List.map_nil, List.length_cons, List.length_nil, List.replicate, List.cons_append, List.nil_append, List.getElem?_cons_zero, List.getElem?_cons_succ, List.set_cons_succ, List.set_cons_zero, Nat.reduceSub, Nat.zero_add, Nat.reduceAdd, Option.map_some, Option.map_none, Option.bind_some, if_true, List.length_map, List.length_range, e_setE0, e_setES, e_dOf, e_fzOf, e_fz, e_ow, e_gSl0, e_gSlS, e_gFz0, e_gFzS, e_kC, e_aNil, e_aCons, e_dLst, e_dTup, e_b2, e_pI, e_pAddI, e_pAddL, e_callD, e_bOf, e_bNot, e_bTru, e_truB, e_bAnd, e_bOr, e_vAnd, e_bYes, e_pLenL, e_pLenT, e_pAbs, e_pListOf, e_pIxL, e_pIxT, e_vIsi, e_iLst, e_iEnm, e_gNm, e_oNil, e_oSeq, e_oSet, e_oRet, e_oIf, e_oFor, e_oFrz, e_vLc, e_frz0w, e_frz0f, e_frzS, e_wipeN, e_wipeC, e_oRetV, e_oApp, e_oExt, e_iOwn, e_iOwnE, e_gTpl2, e_pEqI, e_pNeI, e_pNeB, e_pEqB, e_vChain, e_vNeg, e_vRev, e_oInt, e_dSl, e_vNot, e_vOr, e_vLc2, e_isiL, e_isiI, e_isiB, e_isBB, e_oPar, e_oAug, e_oRevS, e_vIf, e_gGh, e_vRepL, e_pInt1B, e_oAugIx, e_mUnp, e_mPar2, e_mPar3, e_xTup, e_xLst, e_allN, e_allC, e_mDrp2, e_gTpl3, e_oSwap, e_vCallT, e_xCallO, e_mIns, e_mSetIx, e_vLend, e_flatO, e_flatFB, e_flatFI, e_isB, e_isNotBB, e_oUnp, e_iZp, e_oSetIxM, e_oIns, e_oWhile, e_xPV, e_xP, e_xPB, e_xPI, e_xV, e_xFz, e_x2, e_x2N, e_xB, e_xGix, e_mNil, e_mSeq, e_mIf, e_mRet, e_mSet, e_mGset, e_mGaug, e_mLft, e_mFor, e_mApp, e_gaNil, e_gaV, e_gaG, e_xCallG, Nat.reduceLT, Nat.reduceLeDiff, c2, pi, e0, c3, lB, cB, fwd, ap]
          · have e0 : (a.2.2 == 0) = false := by simpa using hw
            simp only [List.map_cons, List.map_nil, List.length_cons, List.length_nil, List.replicate, List.cons_append, List.nil_append, List.getElem?_cons_zero, List.getElem?_cons_succ, List.set_cons_succ, List.set_cons_zero, Nat.reduceSub, Nat.zero_add, Nat.reduceAdd, Option.map_some, Option.map_none, Option.bind_some, if_true, List.length_map, List.length_range, e_setE0, e_setES, e_dOf, e_fzOf, e_fz, e_ow, e_gSl0, e_gSlS, e_gFz0, e_gFzS, e_kC, e_aNil, e_aCons, e_dLst, e_dTup, e_b2, e_pI, e_pAddI, e_pAddL, e_callD, e_bOf, e_bNot, e_bTru, e_truB, e_bAnd, e_bOr, e_vAnd, e_bYes, e_pLenL, e_pLenT, e_pAbs, e_pListOf, e_pIxL, e_pIxT, e_vIsi, e_iLst, e_iEnm, e_gNm, e_oNil, e_oSeq, e_oSet, e_oRet, e_oIf, e_oFor, e_oFrz, e_vLc, e_frz0w, e_frz0f, e_frzS, e_wipeN, e_wipeC, e_oRetV, e_oApp, e_oExt, e_iOwn, e_iOwnE, e_gTpl2, e_pEqI, e_pNeI, e_pNeB, e_pEqB, e_vChain, e_vNeg, e_vRev, e_oInt, e_dSl, e_vNot, e_vOr, e_vLc2, e_isiL, e_isiI, e_isiB, e_isBB, e_oPar, e_oAug, e_oRevS, e_vIf, e_gGh, e_vRepL, e_pInt1B, e_oAugIx, e_mUnp, e_mPar2, e_mPar3, e_xTup, e_xLst, e_allN, e_allC, e_mDrp2, e_gTpl3, e_oSwap, e_vCallT, e_xCallO, e_mIns, e_mSetIx, e_vLend, e_flatO, e_flatFB, e_flatFI, e_isB, e_isNotBB, e_oUnp, e_iZp, e_oSetIxM, e_oIns, e_oWhile, e_xPV, e_xP, e_xPB, e_xPI, e_xV, e_xFz, e_x2, e_x2N, e_xB, e_xGix, e_mNil, e_mSeq, e_mIf, e_mRet, e_mSet, e_mGset, e_mGaug, e_mLft, e_mFor, e_mApp, e_gaNil, e_gaV, e_gaG, e_xCallG, Nat.reduceLT, Nat.reduceLeDiff, c2, pi, e0, c3, lB, cB, Bool.not_false, fwd, ap]
      rw [List.map_cons, List.flatMap_cons, ← List.append_assoc]
      unfold forD
      show ((gTpl 3 (gsCons (gNm 3) (gsCons (gNm 4) (gsCons (gNm 5) gsNil)))) (.tuple [.int (a.1 : Int), .int (a.2.1 : Int), .int a.2.2]) _).bind _ = _
      generalize g_open_arcs_b1 = b1 at s e
      simp only [List.map_cons, List.map_nil, List.length_cons, List.length_nil, List.replicate, List.cons_append, List.nil_append, List.getElem?_cons_zero, List.getElem?_cons_succ, List.set_cons_succ, List.set_cons_zero, Nat.reduceSub, Nat.zero_add, Nat.reduceAdd, Option.map_some, Option.map_none, Option.bind_some, if_true, List.length_map, List.length_range, e_setE0, e_setES, e_dOf, e_fzOf, e_fz, e_ow, e_gSl0, e_gSlS, e_gFz0, e_gFzS, e_kC, e_aNil, e_aCons, e_dLst, e_dTup, e_b2, e_pI, e_pAddI, e_pAddL, e_callD, e_bOf, e_bNot, e_bTru, e_truB, e_bAnd, e_bOr, e_vAnd, e_bYes, e_pLenL, e_pLenT, e_pAbs, e_pListOf, e_pIxL, e_pIxT, e_vIsi, e_iLst, e_iEnm, e_gNm, e_oNil, e_oSeq, e_oSet, e_oRet, e_oIf, e_oFor, e_oFrz, e_vLc, e_frz0w, e_frz0f, e_frzS, e_wipeN, e_wipeC, e_oRetV, e_oApp, e_oExt, e_iOwn, e_iOwnE, e_gTpl2, e_pEqI, e_pNeI, e_pNeB, e_pEqB, e_vChain, e_vNeg, e_vRev, e_oInt, e_dSl, e_vNot, e_vOr, e_vLc2, e_isiL, e_isiI, e_isiB, e_isBB, e_oPar, e_oAug, e_oRevS, e_vIf, e_gGh, e_vRepL, e_pInt1B, e_oAugIx, e_mUnp, e_mPar2, e_mPar3, e_xTup, e_xLst, e_allN, e_allC, e_mDrp2, e_gTpl3, e_oSwap, e_vCallT, e_xCallO, e_mIns, e_mSetIx, e_vLend, e_flatO, e_flatFB, e_flatFI, e_isB, e_isNotBB, e_oUnp, e_iZp, e_oSetIxM, e_oIns, e_oWhile, e_xPV, e_xP, e_xPB, e_xPI, e_xV, e_xFz, e_x2, e_x2N, e_xB, e_xGix, e_mNil, e_mSeq, e_mIf, e_mRet, e_mSet, e_mGset, e_mGaug, e_mLft, e_mFor, e_mApp, e_gaNil, e_gaV, e_gaG, e_xCallG, Nat.reduceLT, Nat.reduceLeDiff, s]
      exact e
  obtain ⟨z3, z4, z5, z6, e⟩ := lp (Fl.arcs (bl o) o.length) [] none none none none (by simp; omega)
  rw [List.nil_append] at e
  unfold m_open_arcs mirror g_open_arcs startE
  generalize m_arcs_of = q1 at as
  generalize g_open_arcs_b1 = b1 at e
  generalize (Fl.arcs (bl o) o.length).map arcD = AD at as e
  have e' : forD (gTpl 3 (gsCons (gNm 3) (gsCons (gNm 4) (gsCons (gNm 5) gsNil)))) b1 AD [some (.fz (.list (rows o))), some (.fz (flD g)), some (.ow []), none, none, none, none] = _ := e
  generalize flD g = G at e'
  simp only [List.map_cons, List.map_nil, List.length_cons, List.length_nil, List.replicate, List.cons_append, List.nil_append, List.getElem?_cons_zero, List.getElem?_cons_succ, List.set_cons_succ, List.set_cons_zero, Nat.reduceSub, Nat.zero_add, Nat.reduceAdd, Option.map_some, Option.map_none, Option.bind_some, if_true, List.length_map, List.length_range, e_setE0, e_setES, e_dOf, e_fzOf, e_fz, e_ow, e_gSl0, e_gSlS, e_gFz0, e_gFzS, e_kC, e_aNil, e_aCons, e_dLst, e_dTup, e_b2, e_pI, e_pAddI, e_pAddL, e_callD, e_bOf, e_bNot, e_bTru, e_truB, e_bAnd, e_bOr, e_vAnd, e_bYes, e_pLenL, e_pLenT, e_pAbs, e_pListOf, e_pIxL, e_pIxT, e_vIsi, e_iLst, e_iEnm, e_gNm, e_oNil, e_oSeq, e_oSet, e_oRet, e_oIf, e_oFor, e_oFrz, e_vLc, e_frz0w, e_frz0f, e_frzS, e_wipeN, e_wipeC, e_oRetV, e_oApp, e_oExt, e_iOwn, e_iOwnE, e_gTpl2, e_pEqI, e_pNeI, e_pNeB, e_pEqB, e_vChain, e_vNeg, e_vRev, e_oInt, e_dSl, e_vNot, e_vOr, e_vLc2, e_isiL, e_isiI, e_isiB, e_isBB, e_oPar, e_oAug, e_oRevS, e_vIf, e_gGh, e_vRepL, e_pInt1B, e_oAugIx, e_mUnp, e_mPar2, e_mPar3, e_xTup, e_xLst, e_allN, e_allC, e_mDrp2, e_gTpl3, e_oSwap, e_vCallT, e_xCallO, e_mIns, e_mSetIx, e_vLend, e_flatO, e_flatFB, e_flatFI, e_isB, e_isNotBB, e_oUnp, e_iZp, e_oSetIxM, e_oIns, e_oWhile, e_xPV, e_xP, e_xPB, e_xPI, e_xV, e_xFz, e_x2, e_x2N, e_xB, e_xGix, e_mNil, e_mSeq, e_mIf, e_mRet, e_mSet, e_mGset, e_mGaug, e_mLft, e_mFor, e_mApp, e_gaNil, e_gaV, e_gaG, e_xCallG, Nat.reduceLT, Nat.reduceLeDiff, c0, as, e']
  rfl
def optD : Option Int → PyData
  | none => .none
  | some m => .int m
def mkD (N : Nat) (M : Fl.Mk) : List PyData := (List.range N).map fun v => optD (M v)
def ahD (N : Nat) (A : Nat → Option Nat) : List PyData := (List.range N).map fun v => optD ((A v).map fun u => (u : Int))
theorem mkD_len (N : Nat) (M : Fl.Mk) : (mkD N M).length = N := by unfold mkD; simp
theorem ahD_len (N : Nat) (A : Nat → Option Nat) : (ahD N A).length = N := by unfold ahD; simp
theorem mkD_at {N : Nat} {M : Fl.Mk} {v : Nat} (h : v < N) : atI (mkD N M) (v : Int) = some (optD (M v)) := atI_of (by omega) (by
  unfold mkD
  rw [Int.toNat_natCast, List.getElem?_map, List.getElem?_range h]; rfl)
theorem ahD_at {N : Nat} {A : Nat → Option Nat} {v : Nat} (h : v < N) : atI (ahD N A) (v : Int) = some (optD ((A v).map fun u => (u : Int))) := atI_of (by omega) (by
  unfold ahD
  rw [Int.toNat_natCast, List.getElem?_map, List.getElem?_range h]; rfl)
theorem range_set {α : Type} (N v : Nat) (hv : v < N) (f : Nat → α) (x : α) : ((List.range N).map f).set v x = (List.range N).map (Fl.up f v x) := by
  apply List.ext_getElem?
  intro k
  rw [List.getElem?_set, List.getElem?_map, List.getElem?_map]
  by_cases hk : k < N
  · rw [List.getElem?_range hk]
    by_cases e : v = k
    · subst e
      rw [if_pos rfl, if_pos (by simpa using hv), Option.map_some, Fl.up_self]
    · rw [if_neg e, Option.map_some, Option.map_some, Fl.up_ne (Ne.symm e)]
  · rw [List.getElem?_eq_none (by simpa using hk), if_neg (by omega)]; rfl
theorem mkD_set {N v : Nat} (hv : v < N) (M : Fl.Mk) (x : Option Int) : (mkD N M).set v (optD x) = mkD N (Fl.up M v x) := by
  unfold mkD
  rw [range_set N v hv]
  refine List.map_congr_left fun y _ => ?_
  unfold Fl.up
  split <;> rfl
theorem ahD_set {N v : Nat} (hv : v < N) (A : Nat → Option Nat) (u : Nat) : (ahD N A).set v (.int (u : Int)) = ahD N (Fl.up A v (some u)) := by
  unfold ahD
  rw [range_set N v hv]
  refine List.map_congr_left fun y _ => ?_
  unfold Fl.up
  split <;> rfl
theorem is_none : pIsB false .none .none = some (.fz (.bool true)) := rfl
theorem is_int (m : Int) : pIsB false (.int m) .none = some (.fz (.bool false)) := rfl
theorem better_spec {N : Nat} (M : Fl.Mk) {u v : Nat} (w : Int) (hu : u < N) (hv : v < N) : m_is_better [.list (mkD N M), .int (u : Int), .int (v : Int), .int w] = some (.fz (.bool (Fl.bet M (u, v, w)))) := by
  have a1 := mkD_at (M := M) hu
  have a2 := mkD_at (M := M) hv
  unfold m_is_better mirror g_is_better startE
  generalize mkD N M = D at a1 a2
  cases q1 : M u with
  | none =>
    have b : Fl.bet M (u, v, w) = false := by unfold Fl.bet; rw [q1]
    rw [q1] at a1
    replace a1 : atI D (u : Int) = some .none := a1
    simp only [List.map_cons, List.map_nil, List.length_cons, List.length_nil, List.replicate, List.cons_append, List.nil_append, List.getElem?_cons_zero, List.getElem?_cons_succ, List.set_cons_succ, List.set_cons_zero, Nat.reduceSub, Nat.zero_add, Nat.reduceAdd, Option.map_some, Option.map_none, Option.bind_some, if_true, List.length_map, List.length_range, e_setE0, e_setES, e_dOf, e_fzOf, e_fz, e_ow, e_gSl0, e_gSlS, e_gFz0, e_gFzS, e_kC, e_aNil, e_aCons, e_dLst, e_dTup, e_b2, e_pI, e_pAddI, e_pAddL, e_callD, e_bOf, e_bNot, e_bTru, e_truB, e_bAnd, e_bOr, e_vAnd, e_bYes, e_pLenL, e_pLenT, e_pAbs, e_pListOf, e_pIxL, e_pIxT, e_vIsi, e_iLst, e_iEnm, e_gNm, e_oNil, e_oSeq, e_oSet, e_oRet, e_oIf, e_oFor, e_oFrz, e_vLc, e_frz0w, e_frz0f, e_frzS, e_wipeN, e_wipeC, e_oRetV, e_oApp, e_oExt, e_iOwn, e_iOwnE, e_gTpl2, e_pEqI, e_pNeI, e_pNeB, e_pEqB, e_vChain, e_vNeg, e_vRev, e_oInt, e_dSl, e_vNot, e_vOr, e_vLc2, e_isiL, e_isiI, e_isiB, e_isBB, e_oPar, e_oAug, e_oRevS, e_vIf, e_gGh, e_vRepL, e_pInt1B, e_oAugIx, e_mUnp, e_mPar2, e_mPar3, e_xTup, e_xLst, e_allN, e_allC, e_mDrp2, e_gTpl3, e_oSwap, e_vCallT, e_xCallO, e_mIns, e_mSetIx, e_vLend, e_flatO, e_flatFB, e_flatFI, e_isB, e_isNotBB, e_oUnp, e_iZp, e_oSetIxM, e_oIns, e_oWhile, e_xPV, e_xP, e_xPB, e_xPI, e_xV, e_xFz, e_x2, e_x2N, e_xB, e_xGix, e_mNil, e_mSeq, e_mIf, e_mRet, e_mSet, e_mGset, e_mGaug, e_mLft, e_mFor, e_mApp, e_gaNil, e_gaV, e_gaG, e_xCallG, Nat.reduceLT, Nat.reduceLeDiff, a1, is_none, b]
  | some m =>
    rw [q1] at a1
    replace a1 : atI D (u : Int) = some (.int m) := a1
    cases q2 : M v with
    | none =>
      have b : Fl.bet M (u, v, w) = true := by unfold Fl.bet; rw [q1]; show (match M v with | none => true | some k => _) = _; rw [q2]
      rw [q2] at a2
      replace a2 : atI D (v : Int) = some .none := a2
      simp only [List.map_cons, List.map_nil, List.length_cons, List.length_nil, List.replicate, List.cons_append, List.nil_append, List.getElem?_cons_zero, List.getElem?_cons_succ, List.set_cons_succ, List.set_cons_zero, Nat.reduceSub, Nat.zero_add, Nat.reduceAdd, Option.map_some, Option.map_none, Option.bind_some, if_true, List.length_map, List.length_range, e_setE0, e_setES, e_dOf, e_fzOf, e_fz, e_ow, e_gSl0, e_gSlS, e_gFz0, e_gFzS, e_kC, e_aNil, e_aCons, e_dLst, e_dTup, e_b2, e_pI, e_pAddI, e_pAddL, e_callD, e_bOf, e_bNot, e_bTru, e_truB, e_bAnd, e_bOr, e_vAnd, e_bYes, e_pLenL, e_pLenT, e_pAbs, e_pListOf, e_pIxL, e_pIxT, e_vIsi, e_iLst, e_iEnm, e_gNm, e_oNil, e_oSeq, e_oSet, e_oRet, e_oIf, e_oFor, e_oFrz, e_vLc, e_frz0w, e_frz0f, e_frzS, e_wipeN, e_wipeC, e_oRetV, e_oApp, e_oExt, e_iOwn, e_iOwnE, e_gTpl2, e_pEqI, e_pNeI, e_pNeB, e_pEqB, e_vChain, e_vNeg, e_vRev, e_oInt, e_dSl, e_vNot, e_vOr, e_vLc2, e_isiL, e_isiI, e_isiB, e_isBB, e_oPar, e_oAug, e_oRevS, e_vIf, e_gGh, e_vRepL, e_pInt1B, e_oAugIx, e_mUnp, e_mPar2, e_mPar3, e_xTup, e_xLst, e_allN, e_allC, e_mDrp2, e_gTpl3, e_oSwap, e_vCallT, e_xCallO, e_mIns, e_mSetIx, e_vLend, e_flatO, e_flatFB, e_flatFI, e_isB, e_isNotBB, e_oUnp, e_iZp, e_oSetIxM, e_oIns, e_oWhile, e_xPV, e_xP, e_xPB, e_xPI, e_xV, e_xFz, e_x2, e_x2N, e_xB, e_xGix, e_mNil, e_mSeq, e_mIf, e_mRet, e_mSet, e_mGset, e_mGaug, e_mLft, e_mFor, e_mApp, e_gaNil, e_gaV, e_gaG, e_xCallG, Nat.reduceLT, Nat.reduceLeDiff, a1, is_int, a2, is_none, b]
    | some k =>
      have b : Fl.bet M (u, v, w) = decide (k < m + w) := by unfold Fl.bet; rw [q1]; show (match M v with | none => true | some k => decide (k < m + w)) = _; rw [q2]
      rw [q2] at a2
      replace a2 : atI D (v : Int) = some (.int k) := a2
      simp only [List.map_cons, List.map_nil, List.length_cons, List.length_nil, List.replicate, List.cons_append, List.nil_append, List.getElem?_cons_zero, List.getElem?_cons_succ, List.set_cons_succ, List.set_cons_zero, Nat.reduceSub, Nat.zero_add, Nat.reduceAdd, Option.map_some, Option.map_none, Option.bind_some, if_true, List.length_map, List.length_range, e_setE0, e_setES, e_dOf, e_fzOf, e_fz, e_ow, e_gSl0, e_gSlS, e_gFz0, e_gFzS, e_kC, e_aNil, e_aCons, e_dLst, e_dTup, e_b2, e_pI, e_pAddI, e_pAddL, e_callD, e_bOf, e_bNot, e_bTru, e_truB, e_bAnd, e_bOr, e_vAnd, e_bYes, e_pLenL, e_pLenT, e_pAbs, e_pListOf, e_pIxL, e_pIxT, e_vIsi, e_iLst, e_iEnm, e_gNm, e_oNil, e_oSeq, e_oSet, e_oRet, e_oIf, e_oFor, e_oFrz, e_vLc, e_frz0w, e_frz0f, e_frzS, e_wipeN, e_wipeC, e_oRetV, e_oApp, e_oExt, e_iOwn, e_iOwnE, e_gTpl2, e_pEqI, e_pNeI, e_pNeB, e_pEqB, e_vChain, e_vNeg, e_vRev, e_oInt, e_dSl, e_vNot, e_vOr, e_vLc2, e_isiL, e_isiI, e_isiB, e_isBB, e_oPar, e_oAug, e_oRevS, e_vIf, e_gGh, e_vRepL, e_pInt1B, e_oAugIx, e_mUnp, e_mPar2, e_mPar3, e_xTup, e_xLst, e_allN, e_allC, e_mDrp2, e_gTpl3, e_oSwap, e_vCallT, e_xCallO, e_mIns, e_mSetIx, e_vLend, e_flatO, e_flatFB, e_flatFI, e_isB, e_isNotBB, e_oUnp, e_iZp, e_oSetIxM, e_oIns, e_oWhile, e_xPV, e_xP, e_xPB, e_xPI, e_xV, e_xFz, e_x2, e_x2N, e_xB, e_xGix, e_mNil, e_mSeq, e_mIf, e_mRet, e_mSet, e_mGset, e_mGaug, e_mLft, e_mFor, e_mApp, e_gaNil, e_gaV, e_gaG, e_xCallG, Nat.reduceLT, Nat.reduceLeDiff, a1, is_int, a2, b]
def bwE (o : List (List Int)) (g : Fl.Flow) (L : List Fl.Arc) (s : Fl.Bs) (y : Option Sl × Option Sl × Option Sl) : En :=
  [some (.fz (.list (rows o))), some (.fz (flD g)), some (.ow (mkD (2 * o.length + 2) s.M)), none, some (.ow (ahD (2 * o.length + 2) s.A)), some (.fz (.list (L.map arcD))), some (.fz (.bool s.mv)), y.1, y.2.1, y.2.2]
theorem ixN_nat' {n k : Nat} (h : k < n) : ixN n (k : Int) = some k := by
  unfold ixN
  rw [if_pos (by omega), if_pos (by omega), Int.toNat_natCast]
theorem bw_arc (o : List (List Int)) (g : Fl.Flow) (L : List Fl.Arc) (s : Fl.Bs) (y : Option Sl × Option Sl × Option Sl) (a : Fl.Arc) (h1 : a.1 < 2 * o.length + 2) (h2 : a.2.1 < 2 * o.length + 2) : g_best_ways_b1 (bwE o g L s (some (.fz (.int (a.1 : Int))), some (.fz (.int (a.2.1 : Int))), some (.fz (.int a.2.2)))) = some (.nx (bwE o g L (Fl.rlx s a) (some (.fz (.int (a.1 : Int))), some (.fz (.int (a.2.1 : Int))), some (.fz (.int a.2.2))))) := by
  have bs := better_spec (N := 2 * o.length + 2) s.M a.2.2 h1 h2
  have a1 := mkD_at (M := s.M) h1
  unfold bwE g_best_ways_b1
  have fz : ∀ y4 y5 y6 y7 y8 y9, frzE 2 [some (.fz (.list (rows o))), some (.fz (flD g)), some (.ow (mkD (2 * o.length + 2) s.M)), none, y4, y5, y6, y7, y8, y9] = [some (.fz (.list (rows o))), some (.fz (flD g)), some (.fz (.list (mkD (2 * o.length + 2) s.M))), none, y4, y5, y6, y7, y8, y9] := fun _ _ _ _ _ _ => rfl
  have fl : ∀ b : Bool, flatSl (.fz (.bool b)) = true := fun b => rfl
  have ml := mkD_len (2 * o.length + 2) s.M
  have hl := ahD_len (2 * o.length + 2) s.A
  have ix : ixN (2 * o.length + 2) (a.2.1 : Int) = some a.2.1 := ixN_nat' h2
  by_cases hb : Fl.bet s.M a = true
  · have hb' : Fl.bet s.M (a.1, a.2.1, a.2.2) = true := hb
    rw [hb'] at bs
    obtain ⟨m, e1, e2, _⟩ := Fl.bet_some hb
    rw [e1] at a1
    replace a1 : atI (mkD (2 * o.length + 2) s.M) (a.1 : Int) = some (.int m) := a1
    have er : Fl.rlx s a = ⟨Fl.up s.M a.2.1 (some (m + a.2.2)), Fl.up s.A a.2.1 (some a.1), true⟩ := by unfold Fl.rlx; rw [if_pos hb, e2]
    rw [er]
    have st1 := mkD_set h2 s.M (some (m + a.2.2))
    replace st1 : (mkD (2 * o.length + 2) s.M).set a.2.1 (.int (m + a.2.2)) = _ := st1
    have st2 := ahD_set h2 s.A a.1
    generalize mkD (2 * o.length + 2) (Fl.up s.M a.2.1 (some (m + a.2.2))) = D2 at st1
    generalize ahD (2 * o.length + 2) (Fl.up s.A a.2.1 (some a.1)) = E2 at st2
    generalize mkD (2 * o.length + 2) s.M = D1 at bs a1 fz ml st1
    generalize ahD (2 * o.length + 2) s.A = E1 at hl st2
    generalize m_is_better = q1 at bs
    generalize flD g = G at fz
    generalize L.map arcD = LL
    simp only [List.map_cons, List.map_nil, List.length_cons, List.length_nil, List.replicate, List.cons_append, List.nil_append, List.getElem?_cons_zero, List.getElem?_cons_succ, List.set_cons_succ, List.set_cons_zero, Nat.reduceSub, Nat.zero_add, Nat.reduceAdd, Option.map_some, Option.map_none, Option.bind_some, if_true, List.length_map, List.length_range, e_setE0, e_setES, e_dOf, e_fzOf, e_fz, e_ow, e_gSl0, e_gSlS, e_gFz0, e_gFzS, e_kC, e_aNil, e_aCons, e_dLst, e_dTup, e_b2, e_pI, e_pAddI, e_pAddL, e_callD, e_bOf, e_bNot, e_bTru, e_truB, e_bAnd, e_bOr, e_vAnd, e_bYes, e_pLenL, e_pLenT, e_pAbs, e_pListOf, e_pIxL, e_pIxT, e_vIsi, e_iLst, e_iEnm, e_gNm, e_oNil, e_oSeq, e_oSet, e_oRet, e_oIf, e_oFor, e_oFrz, e_vLc, e_frz0w, e_frz0f, e_frzS, e_wipeN, e_wipeC, e_oRetV, e_oApp, e_oExt, e_iOwn, e_iOwnE, e_gTpl2, e_pEqI, e_pNeI, e_pNeB, e_pEqB, e_vChain, e_vNeg, e_vRev, e_oInt, e_dSl, e_vNot, e_vOr, e_vLc2, e_isiL, e_isiI, e_isiB, e_isBB, e_oPar, e_oAug, e_oRevS, e_vIf, e_gGh, e_vRepL, e_pInt1B, e_oAugIx, e_mUnp, e_mPar2, e_mPar3, e_xTup, e_xLst, e_allN, e_allC, e_mDrp2, e_gTpl3, e_oSwap, e_vCallT, e_xCallO, e_mIns, e_mSetIx, e_vLend, e_flatO, e_flatFB, e_flatFI, e_isB, e_isNotBB, e_oUnp, e_iZp, e_oSetIxM, e_oIns, e_oWhile, e_xPV, e_xP, e_xPB, e_xPI, e_xV, e_xFz, e_x2, e_x2N, e_xB, e_xGix, e_mNil, e_mSeq, e_mIf, e_mRet, e_mSet, e_mGset, e_mGaug, e_mLft, e_mFor, e_mApp, e_gaNil, e_gaV, e_gaG, e_xCallG, Nat.reduceLT, Nat.reduceLeDiff, fz, bs, fl, ml, ix, a1, st1, hl, st2]
  · have hb' : Fl.bet s.M (a.1, a.2.1, a.2.2) = false := by simpa using hb
    rw [hb'] at bs
    have er : Fl.rlx s a = s := by unfold Fl.rlx; rw [if_neg hb]
    rw [er]
    generalize mkD (2 * o.length + 2) s.M = D1 at bs a1 fz ml
    generalize ahD (2 * o.length + 2) s.A = E1 at hl
    generalize m_is_better = q1 at bs
    generalize flD g = G at fz
    generalize L.map arcD = LL
    simp only [List.map_cons, List.map_nil, List.length_cons, List.length_nil, List.replicate, List.cons_append, List.nil_append, List.getElem?_cons_zero, List.getElem?_cons_succ, List.set_cons_succ, List.set_cons_zero, Nat.reduceSub, Nat.zero_add, Nat.reduceAdd, Option.map_some, Option.map_none, Option.bind_some, if_true, List.length_map, List.length_range, e_setE0, e_setES, e_dOf, e_fzOf, e_fz, e_ow, e_gSl0, e_gSlS, e_gFz0, e_gFzS, e_kC, e_aNil, e_aCons, e_dLst, e_dTup, e_b2, e_pI, e_pAddI, e_pAddL, e_callD, e_bOf, e_bNot, e_bTru, e_truB, e_bAnd, e_bOr, e_vAnd, e_bYes, e_pLenL, e_pLenT, e_pAbs, e_pListOf, e_pIxL, e_pIxT, e_vIsi, e_iLst, e_iEnm, e_gNm, e_oNil, e_oSeq, e_oSet, e_oRet, e_oIf, e_oFor, e_oFrz, e_vLc, e_frz0w, e_frz0f, e_frzS, e_wipeN, e_wipeC, e_oRetV, e_oApp, e_oExt, e_iOwn, e_iOwnE, e_gTpl2, e_pEqI, e_pNeI, e_pNeB, e_pEqB, e_vChain, e_vNeg, e_vRev, e_oInt, e_dSl, e_vNot, e_vOr, e_vLc2, e_isiL, e_isiI, e_isiB, e_isBB, e_oPar, e_oAug, e_oRevS, e_vIf, e_gGh, e_vRepL, e_pInt1B, e_oAugIx, e_mUnp, e_mPar2, e_mPar3, e_xTup, e_xLst, e_allN, e_allC, e_mDrp2, e_gTpl3, e_oSwap, e_vCallT, e_xCallO, e_mIns, e_mSetIx, e_vLend, e_flatO, e_flatFB, e_flatFI, e_isB, e_isNotBB, e_oUnp, e_iZp, e_oSetIxM, e_oIns, e_oWhile, e_xPV, e_xP, e_xPB, e_xPI, e_xV, e_xFz, e_x2, e_x2N, e_xB, e_xGix, e_mNil, e_mSeq, e_mIf, e_mRet, e_mSet, e_mGset, e_mGaug, e_mLft, e_mFor, e_mApp, e_gaNil, e_gaV, e_gaG, e_xCallG, Nat.reduceLT, Nat.reduceLeDiff, fz, bs, fl]
theorem bw_pass (o : List (List Int)) (g : Fl.Flow) (L : List Fl.Arc) (hL : ∀ a ∈ L, a.1 < 2 * o.length + 2 ∧ a.2.1 < 2 * o.length + 2) (s : Fl.Bs) (y : Option Sl × Option Sl × Option Sl) : ∃ y', g_best_ways_b2 (bwE o g L s y) = some (.nx (bwE o g L (Fl.pass L s) y')) := by
  have lp : ∀ (R : List Fl.Arc), (∀ a ∈ R, a.1 < 2 * o.length + 2 ∧ a.2.1 < 2 * o.length + 2) → ∀ (s : Fl.Bs) (y : Option Sl × Option Sl × Option Sl), ∃ y', forD (gTpl 3 (gsCons (gNm 7) (gsCons (gNm 8) (gsCons (gNm 9) gsNil)))) g_best_ways_b1 (R.map arcD) (bwE o g L s y) = some (.nx (bwE o g L (R.foldl Fl.rlx s) y')) := by
    intro R
    induction R with
    | nil => intro _ s y; exact ⟨y, rfl⟩
    | cons a R ih =>
      intro hR s y
      obtain ⟨h1, h2⟩ := hR a List.mem_cons_self
      have b := bw_arc o g L s y a h1 h2
      obtain ⟨y', e⟩ := ih (fun b hb => hR b (List.mem_cons_of_mem _ hb)) (Fl.rlx s a) (some (.fz (.int (a.1 : Int))), some (.fz (.int (a.2.1 : Int))), some (.fz (.int a.2.2)))
      refine ⟨y', ?_⟩
      rw [List.map_cons, List.foldl_cons]
      unfold forD
      show ((gTpl 3 (gsCons (gNm 7) (gsCons (gNm 8) (gsCons (gNm 9) gsNil)))) (.tuple [.int (a.1 : Int), .int (a.2.1 : Int), .int a.2.2]) _).bind _ = _
      have as : gTpl 3 (gsCons (gNm 7) (gsCons (gNm 8) (gsCons (gNm 9) gsNil))) (.tuple [.int (a.1 : Int), .int (a.2.1 : Int), .int a.2.2]) (bwE o g L s y) = some (bwE o g L s (some (.fz (.int (a.1 : Int))), some (.fz (.int (a.2.1 : Int))), some (.fz (.int a.2.2)))) := by
        unfold bwE
        simp only [List.map_cons, List.map_nil, List.length_cons, List.length_nil, List.replicate, List.cons_append, List.nil_append, List.getElem?_cons_zero, List.getElem?_cons_succ, List.set_cons_succ, List.set_cons_zero, Nat.reduceSub, Nat.zero_add, Nat.reduceAdd, Option.map_some, Option.map_none, Option.bind_some, if_true, List.length_map, List.length_range, e_setE0, e_setES, e_dOf, e_fzOf, e_fz, e_ow, e_gSl0, e_gSlS, e_gFz0, e_gFzS, e_kC, e_aNil, e_aCons, e_dLst, e_dTup, e_b2, e_pI, e_pAddI, e_pAddL, e_callD, e_bOf, e_bNot, e_bTru, e_truB, e_bAnd, e_bOr, e_vAnd, e_bYes, e_pLenL, e_pLenT, e_pAbs, e_pListOf, e_pIxL, e_pIxT, e_vIsi, e_iLst, e_iEnm, e_gNm, e_oNil, e_oSeq, e_oSet, e_oRet, e_oIf, e_oFor, e_oFrz, e_vLc, e_frz0w, e_frz0f, e_frzS, e_wipeN, e_wipeC, e_oRetV, e_oApp, e_oExt, e_iOwn, e_iOwnE, e_gTpl2, e_pEqI, e_pNeI, e_pNeB, e_pEqB, e_vChain, e_vNeg, e_vRev, e_oInt, e_dSl, e_vNot, e_vOr, e_vLc2, e_isiL, e_isiI, e_isiB, e_isBB, e_oPar, e_oAug, e_oRevS, e_vIf, e_gGh, e_vRepL, e_pInt1B, e_oAugIx, e_mUnp, e_mPar2, e_mPar3, e_xTup, e_xLst, e_allN, e_allC, e_mDrp2, e_gTpl3, e_oSwap, e_vCallT, e_xCallO, e_mIns, e_mSetIx, e_vLend, e_flatO, e_flatFB, e_flatFI, e_isB, e_isNotBB, e_oUnp, e_iZp, e_oSetIxM, e_oIns, e_oWhile, e_xPV, e_xP, e_xPB, e_xPI, e_xV, e_xFz, e_x2, e_x2N, e_xB, e_xGix, e_mNil, e_mSeq, e_mIf, e_mRet, e_mSet, e_mGset, e_mGaug, e_mLft, e_mFor, e_mApp, e_gaNil, e_gaV, e_gaG, e_xCallG, Nat.reduceLT, Nat.reduceLeDiff]
      rw [as, Option.bind_some, b]
      exact e
  obtain ⟨y', e⟩ := lp L hL { s with mv := false } y
  refine ⟨y', ?_⟩
  have e' : forD (gTpl 3 (gsCons (gNm 7) (gsCons (gNm 8) (gsCons (gNm 9) gsNil)))) g_best_ways_b1 (L.map arcD) (bwE o g L { s with mv := false } y) = some (.nx (bwE o g L (Fl.pass L s) y')) := e
  unfold g_best_ways_b2
  generalize hX : bwE o g L (Fl.pass L s) y' = X at e'
  unfold bwE at e' ⊢
  generalize g_best_ways_b1 = b1 at e'
  generalize L.map arcD = LL at e'
  generalize flD g = G at e'
  simp only [List.map_cons, List.map_nil, List.length_cons, List.length_nil, List.replicate, List.cons_append, List.nil_append, List.getElem?_cons_zero, List.getElem?_cons_succ, List.set_cons_succ, List.set_cons_zero, Nat.reduceSub, Nat.zero_add, Nat.reduceAdd, Option.map_some, Option.map_none, Option.bind_some, if_true, List.length_map, List.length_range, e_setE0, e_setES, e_dOf, e_fzOf, e_fz, e_ow, e_gSl0, e_gSlS, e_gFz0, e_gFzS, e_kC, e_aNil, e_aCons, e_dLst, e_dTup, e_b2, e_pI, e_pAddI, e_pAddL, e_callD, e_bOf, e_bNot, e_bTru, e_truB, e_bAnd, e_bOr, e_vAnd, e_bYes, e_pLenL, e_pLenT, e_pAbs, e_pListOf, e_pIxL, e_pIxT, e_vIsi, e_iLst, e_iEnm, e_gNm, e_oNil, e_oSeq, e_oSet, e_oRet, e_oIf, e_oFor, e_oFrz, e_vLc, e_frz0w, e_frz0f, e_frzS, e_wipeN, e_wipeC, e_oRetV, e_oApp, e_oExt, e_iOwn, e_iOwnE, e_gTpl2, e_pEqI, e_pNeI, e_pNeB, e_pEqB, e_vChain, e_vNeg, e_vRev, e_oInt, e_dSl, e_vNot, e_vOr, e_vLc2, e_isiL, e_isiI, e_isiB, e_isBB, e_oPar, e_oAug, e_oRevS, e_vIf, e_gGh, e_vRepL, e_pInt1B, e_oAugIx, e_mUnp, e_mPar2, e_mPar3, e_xTup, e_xLst, e_allN, e_allC, e_mDrp2, e_gTpl3, e_oSwap, e_vCallT, e_xCallO, e_mIns, e_mSetIx, e_vLend, e_flatO, e_flatFB, e_flatFI, e_isB, e_isNotBB, e_oUnp, e_iZp, e_oSetIxM, e_oIns, e_oWhile, e_xPV, e_xP, e_xPB, e_xPI, e_xV, e_xFz, e_x2, e_x2N, e_xB, e_xGix, e_mNil, e_mSeq, e_mIf, e_mRet, e_mSet, e_mGset, e_mGaug, e_mLft, e_mFor, e_mApp, e_gaNil, e_gaV, e_gaG, e_xCallG, Nat.reduceLT, Nat.reduceLeDiff, e']
theorem bw_walk (o : List (List Int)) (g : Fl.Flow) (L : List Fl.Arc) (hL : ∀ a ∈ L, a.1 < 2 * o.length + 2 ∧ a.2.1 < 2 * o.length + 2) : ∀ (k : Nat) (s s' : Fl.Bs) (y : Option Sl × Option Sl × Option Sl), Fl.walk L k s = some s' → ∃ y', whileD (bTru (gSl 6)) g_best_ways_b2 k (bwE o g L s y) = some (.nx (bwE o g L s' y'))
  | 0, s, s', y, h => by cases h
  | k + 1, s, s', y, h => by
    unfold Fl.walk at h
    unfold whileD
    have c : bTru (gSl 6) (bwE o g L s y) = some s.mv := by
      unfold bwE
      generalize L.map arcD = LL
      simp only [List.map_cons, List.map_nil, List.length_cons, List.length_nil, List.replicate, List.cons_append, List.nil_append, List.getElem?_cons_zero, List.getElem?_cons_succ, List.set_cons_succ, List.set_cons_zero, Nat.reduceSub, Nat.zero_add, Nat.reduceAdd, Option.map_some, Option.map_none, Option.bind_some, if_true, List.length_map, List.length_range, e_setE0, e_setES, e_dOf, e_fzOf, e_fz, e_ow, e_gSl0, e_gSlS, e_gFz0, e_gFzS, e_kC, e_aNil, e_aCons, e_dLst, e_dTup, e_b2, e_pI, e_pAddI, e_pAddL, e_callD, e_bOf, e_bNot, e_bTru, e_truB, e_bAnd, e_bOr, e_vAnd, e_bYes, e_pLenL, e_pLenT, e_pAbs, e_pListOf, e_pIxL, e_pIxT, e_vIsi, e_iLst, e_iEnm, e_gNm, e_oNil, e_oSeq, e_oSet, e_oRet, e_oIf, e_oFor, e_oFrz, e_vLc, e_frz0w, e_frz0f, e_frzS, e_wipeN, e_wipeC, e_oRetV, e_oApp, e_oExt, e_iOwn, e_iOwnE, e_gTpl2, e_pEqI, e_pNeI, e_pNeB, e_pEqB, e_vChain, e_vNeg, e_vRev, e_oInt, e_dSl, e_vNot, e_vOr, e_vLc2, e_isiL, e_isiI, e_isiB, e_isBB, e_oPar, e_oAug, e_oRevS, e_vIf, e_gGh, e_vRepL, e_pInt1B, e_oAugIx, e_mUnp, e_mPar2, e_mPar3, e_xTup, e_xLst, e_allN, e_allC, e_mDrp2, e_gTpl3, e_oSwap, e_vCallT, e_xCallO, e_mIns, e_mSetIx, e_vLend, e_flatO, e_flatFB, e_flatFI, e_isB, e_isNotBB, e_oUnp, e_iZp, e_oSetIxM, e_oIns, e_oWhile, e_xPV, e_xP, e_xPB, e_xPI, e_xV, e_xFz, e_x2, e_x2N, e_xB, e_xGix, e_mNil, e_mSeq, e_mIf, e_mRet, e_mSet, e_mGset, e_mGaug, e_mLft, e_mFor, e_mApp, e_gaNil, e_gaV, e_gaG, e_xCallG, Nat.reduceLT, Nat.reduceLeDiff]
    rw [c]
    by_cases hm : s.mv = true
    · rw [if_pos hm] at h
      obtain ⟨y1, e1⟩ := bw_pass o g L hL s y
      obtain ⟨y2, e2⟩ := bw_walk o g L hL k (Fl.pass L s) s' y1 h
      rw [hm]
      dsimp only
      rw [e1]
      exact ⟨y2, e2⟩
    · rw [if_neg hm] at h
      cases h
      have hm' : s.mv = false := by simpa using hm
      rw [hm']
      exact ⟨y, rfl⟩
theorem opens_bd {o : List (List Int)} (h : IsOrd o) {g : Fl.Flow} : ∀ a ∈ Fl.opens (bl o) o.length g, a.1 < 2 * o.length + 2 ∧ a.2.1 < 2 * o.length + 2 := fun a ha => by
  rcases Fl.mem_opens.mp ha with ⟨q, _⟩ | ⟨q, _⟩
  · have := Fl.arc_ne (low_of h) q; exact ⟨this.2.1, this.2.2⟩
  · have := Fl.arc_ne (low_of h) q; exact ⟨this.2.2, this.2.1⟩
theorem ways_spec (o : List (List Int)) (h : IsOrd o) (hl : o.length ≤ 14) (g : Fl.Flow) {s' : Fl.Bs} (hw : Fl.walk (Fl.opens (bl o) o.length g) FUEL (Fl.start (2 * o.length)) = some s') :
    m_best_ways [.list (rows o), flD g] = some (.fz (.tuple [.list (mkD (2 * o.length + 2) s'.M), .list (ahD (2 * o.length + 2) s'.A)])) := by
  have c2 : (2 : Nat) ≤ cap := by rw [cap_eq]; decide
  have cN : 2 * o.length + 2 < cap := by rw [cap_eq]; omega
  have ps := points_s o
  have so := source_s o
  have os := opens_spec o h hl g
  obtain ⟨y', e⟩ := bw_walk o g (Fl.opens (bl o) o.length g) (opens_bd h) FUEL (Fl.start (2 * o.length)) s' (none, none, none) hw
  have it : ∀ y2 y3 y4 y5 y6 y7 y8 y9, iR1 (dOf (callD m_many_points (aCons (gFz 0) aNil))) [some (.fz (.list (rows o))), some (.fz (flD g)), y2, y3, y4, y5, y6, y7, y8, y9] = some ((List.range (2 * o.length + 2)).map fun (k : Nat) => PyData.int (k : Int)) := fun y2 y3 y4 y5 y6 y7 y8 y9 => iR1_nat (by
    generalize m_many_points = q1 at ps
    generalize flD g = G
    simp only [List.map_cons, List.map_nil, List.length_cons, List.length_nil, List.replicate, List.cons_append, List.nil_append, List.getElem?_cons_zero, List.getElem?_cons_succ, List.set_cons_succ, List.set_cons_zero, Nat.reduceSub, Nat.zero_add, Nat.reduceAdd, Option.map_some, Option.map_none, Option.bind_some, if_true, List.length_map, List.length_range, e_setE0, e_setES, e_dOf, e_fzOf, e_fz, e_ow, e_gSl0, e_gSlS, e_gFz0, e_gFzS, e_kC, e_aNil, e_aCons, e_dLst, e_dTup, e_b2, e_pI, e_pAddI, e_pAddL, e_callD, e_bOf, e_bNot, e_bTru, e_truB, e_bAnd, e_bOr, e_vAnd, e_bYes, e_pLenL, e_pLenT, e_pAbs, e_pListOf, e_pIxL, e_pIxT, e_vIsi, e_iLst, e_iEnm, e_gNm, e_oNil, e_oSeq, e_oSet, e_oRet, e_oIf, e_oFor, e_oFrz, e_vLc, e_frz0w, e_frz0f, e_frzS, e_wipeN, e_wipeC, e_oRetV, e_oApp, e_oExt, e_iOwn, e_iOwnE, e_gTpl2, e_pEqI, e_pNeI, e_pNeB, e_pEqB, e_vChain, e_vNeg, e_vRev, e_oInt, e_dSl, e_vNot, e_vOr, e_vLc2, e_isiL, e_isiI, e_isiB, e_isBB, e_oPar, e_oAug, e_oRevS, e_vIf, e_gGh, e_vRepL, e_pInt1B, e_oAugIx, e_mUnp, e_mPar2, e_mPar3, e_xTup, e_xLst, e_allN, e_allC, e_mDrp2, e_gTpl3, e_oSwap, e_vCallT, e_xCallO, e_mIns, e_mSetIx, e_vLend, e_flatO, e_flatFB, e_flatFI, e_isB, e_isNotBB, e_oUnp, e_iZp, e_oSetIxM, e_oIns, e_oWhile, e_xPV, e_xP, e_xPB, e_xPI, e_xV, e_xFz, e_x2, e_x2N, e_xB, e_xGix, e_mNil, e_mSeq, e_mIf, e_mRet, e_mSet, e_mGset, e_mGaug, e_mLft, e_mFor, e_mApp, e_gaNil, e_gaV, e_gaG, e_xCallG, Nat.reduceLT, Nat.reduceLeDiff, ps]
    rfl) (by omega)
  have lc : ∀ y2 y4 y5 y6 y7 y8 y9, lcD (gNm 3) bYes (kC .none) [some (.fz (.list (rows o))), some (.fz (flD g)), y2, none, y4, y5, y6, y7, y8, y9] ((List.range (2 * o.length + 2)).map fun (k : Nat) => PyData.int (k : Int)) = some (mkD (2 * o.length + 2) fun _ => none) := fun y2 y4 y5 y6 y7 y8 y9 => by
    unfold mkD
    refine lcD_map _ _ _ fun k _ => ?_
    generalize flD g = G
    simp only [List.map_cons, List.map_nil, List.length_cons, List.length_nil, List.replicate, List.cons_append, List.nil_append, List.getElem?_cons_zero, List.getElem?_cons_succ, List.set_cons_succ, List.set_cons_zero, Nat.reduceSub, Nat.zero_add, Nat.reduceAdd, Option.map_some, Option.map_none, Option.bind_some, if_true, List.length_map, List.length_range, e_setE0, e_setES, e_dOf, e_fzOf, e_fz, e_ow, e_gSl0, e_gSlS, e_gFz0, e_gFzS, e_kC, e_aNil, e_aCons, e_dLst, e_dTup, e_b2, e_pI, e_pAddI, e_pAddL, e_callD, e_bOf, e_bNot, e_bTru, e_truB, e_bAnd, e_bOr, e_vAnd, e_bYes, e_pLenL, e_pLenT, e_pAbs, e_pListOf, e_pIxL, e_pIxT, e_vIsi, e_iLst, e_iEnm, e_gNm, e_oNil, e_oSeq, e_oSet, e_oRet, e_oIf, e_oFor, e_oFrz, e_vLc, e_frz0w, e_frz0f, e_frzS, e_wipeN, e_wipeC, e_oRetV, e_oApp, e_oExt, e_iOwn, e_iOwnE, e_gTpl2, e_pEqI, e_pNeI, e_pNeB, e_pEqB, e_vChain, e_vNeg, e_vRev, e_oInt, e_dSl, e_vNot, e_vOr, e_vLc2, e_isiL, e_isiI, e_isiB, e_isBB, e_oPar, e_oAug, e_oRevS, e_vIf, e_gGh, e_vRepL, e_pInt1B, e_oAugIx, e_mUnp, e_mPar2, e_mPar3, e_xTup, e_xLst, e_allN, e_allC, e_mDrp2, e_gTpl3, e_oSwap, e_vCallT, e_xCallO, e_mIns, e_mSetIx, e_vLend, e_flatO, e_flatFB, e_flatFI, e_isB, e_isNotBB, e_oUnp, e_iZp, e_oSetIxM, e_oIns, e_oWhile, e_xPV, e_xP, e_xPB, e_xPI, e_xV, e_xFz, e_x2, e_x2N, e_xB, e_xGix, e_mNil, e_mSeq, e_mIf, e_mRet, e_mSet, e_mGset, e_mGaug, e_mLft, e_mFor, e_mApp, e_gaNil, e_gaV, e_gaG, e_xCallG, Nat.reduceLT, Nat.reduceLeDiff]
    rfl
  have am : mkD (2 * o.length + 2) (fun _ => none) = ahD (2 * o.length + 2) fun _ => none := rfl
  have ml := mkD_len (2 * o.length + 2) fun _ => none
  have ix : ixN (2 * o.length + 2) (2 * (o.length : Int)) = some (2 * o.length) := by
    have := ixN_nat' (n := 2 * o.length + 2) (k := 2 * o.length) (by omega)
    rwa [show ((2 * o.length : Nat) : Int) = 2 * (o.length : Int) by omega] at this
  have st := mkD_set (N := 2 * o.length + 2) (v := 2 * o.length) (by omega) (fun _ => none) (some 0)
  replace st : (mkD (2 * o.length + 2) fun _ => none).set (2 * o.length) (.int 0) = mkD (2 * o.length + 2) (Fl.start (2 * o.length)).M := st
  have e' : whileD (bTru (gSl 6)) g_best_ways_b2 FUEL [some (.fz (.list (rows o))), some (.fz (flD g)), some (.ow (mkD (2 * o.length + 2) (Fl.start (2 * o.length)).M)), none, some (.ow (ahD (2 * o.length + 2) fun _ => none)), some (.fz (.list ((Fl.opens (bl o) o.length g).map arcD))), some (.fz (.bool true)), none, none, none] = _ := e
  unfold bwE at e'
  rw [am] at ml lc st
  unfold m_best_ways mirror g_best_ways startE
  generalize m_many_points = q1 at ps it
  generalize m_source = q2 at so
  generalize m_open_arcs = q3 at os
  generalize g_best_ways_b2 = q4 at e'
  generalize (Fl.opens (bl o) o.length g).map arcD = LL at os e'
  generalize mkD (2 * o.length + 2) (Fl.start (2 * o.length)).M = D0 at st e'
  generalize mkD (2 * o.length + 2) s'.M = D1 at e'
  generalize ahD (2 * o.length + 2) s'.A = E1 at e'
  generalize (ahD (2 * o.length + 2) fun _ => none) = E0 at ml lc st e'
  generalize flD g = G at it lc os e'
  generalize rows o = RO at it lc so os e'
  simp only [List.map_cons, List.map_nil, List.length_cons, List.length_nil, List.replicate, List.cons_append, List.nil_append, List.getElem?_cons_zero, List.getElem?_cons_succ, List.set_cons_succ, List.set_cons_zero, Nat.reduceSub, Nat.zero_add, Nat.reduceAdd, Option.map_some, Option.map_none, Option.bind_some, if_true, List.length_map, List.length_range, e_setE0, e_setES, e_dOf, e_fzOf, e_fz, e_ow, e_gSl0, e_gSlS, e_gFz0, e_gFzS, e_kC, e_aNil, e_aCons, e_dLst, e_dTup, e_b2, e_pI, e_pAddI, e_pAddL, e_callD, e_bOf, e_bNot, e_bTru, e_truB, e_bAnd, e_bOr, e_vAnd, e_bYes, e_pLenL, e_pLenT, e_pAbs, e_pListOf, e_pIxL, e_pIxT, e_vIsi, e_iLst, e_iEnm, e_gNm, e_oNil, e_oSeq, e_oSet, e_oRet, e_oIf, e_oFor, e_oFrz, e_vLc, e_frz0w, e_frz0f, e_frzS, e_wipeN, e_wipeC, e_oRetV, e_oApp, e_oExt, e_iOwn, e_iOwnE, e_gTpl2, e_pEqI, e_pNeI, e_pNeB, e_pEqB, e_vChain, e_vNeg, e_vRev, e_oInt, e_dSl, e_vNot, e_vOr, e_vLc2, e_isiL, e_isiI, e_isiB, e_isBB, e_oPar, e_oAug, e_oRevS, e_vIf, e_gGh, e_vRepL, e_pInt1B, e_oAugIx, e_mUnp, e_mPar2, e_mPar3, e_xTup, e_xLst, e_allN, e_allC, e_mDrp2, e_gTpl3, e_oSwap, e_vCallT, e_xCallO, e_mIns, e_mSetIx, e_vLend, e_flatO, e_flatFB, e_flatFI, e_isB, e_isNotBB, e_oUnp, e_iZp, e_oSetIxM, e_oIns, e_oWhile, e_xPV, e_xP, e_xPB, e_xPI, e_xV, e_xFz, e_x2, e_x2N, e_xB, e_xGix, e_mNil, e_mSeq, e_mIf, e_mRet, e_mSet, e_mGset, e_mGaug, e_mLft, e_mFor, e_mApp, e_gaNil, e_gaV, e_gaG, e_xCallG, Nat.reduceLT, Nat.reduceLeDiff, it, List.length_map, List.length_range, cN, lc, so, ml, ix, st, os, e', frzE, c2]
section
variable {f : En → Option PyData} {fa fb : En → Option PyData} {g : En → Option Out} {c c2 : En → Gt → Option (Bool × Gt)} {d e : TM} {Γ : En} {l : Gt} {b : En → Option Bool} {hh : En → Gt → Option Gt}
theorem e_tSeq1 : tSeq1 d e Γ l = (match d Γ l with | some (.nx Γ' l') => e Γ' l' | r => r) := id rfl
theorem e_tNil1 : tNil1 Γ l = some (.nx Γ l) := id rfl
theorem e_tIf1 : tIf1 c d e Γ l = (match c Γ l with | some (true, l') => d Γ l' | some (false, l') => e Γ l' | none => none) := id rfl
theorem e_xTB : xTB b Γ l = (b Γ).map fun s => (s, l) := id rfl
theorem e_xTIn : xTIn f Γ l = (match f Γ with | some (.tuple [.int a, .int b]) => some (decide ((a, b) ∈ l), l) | _ => none) := id rfl
theorem e_tDel : tDel f Γ l = (match f Γ with | some (.tuple [.int a, .int b]) => if (a, b) ∈ l then some (.nx Γ (l.filter fun p => decide (p ≠ (a, b)))) else none | _ => none) := id rfl
theorem e_tPut2 : tPut2 fa fb Γ l = (match fa Γ, fb Γ with | some (.int a), some (.int b) => if (a, b) ∉ l ∧ l.length < cap then some (.nx Γ (l ++ [(a, b)])) else none | _, _ => none) := id rfl
theorem e_tLft : tLft g Γ l = (match g Γ with | some (.nx Γ') => some (.nx Γ' l) | some (.rt s) => some (.rt s l) | some (.bk Γ') => some (.bk Γ' l) | some (.ct Γ') => some (.ct Γ' l) | none => none) := id rfl
end
def grE (o : List (List Int)) (g0 : Fl.Flow) (A : Nat → Option Nat) (v : Nat) (y : Option Sl × Option Sl) : En := [some (.fz (.list (rows o))), some (.fz (flD g0)), some (.fz (.list (ahD (2 * o.length + 2) A))), none, none, some (.fz (.int (v : Int))), y.1, y.2]
theorem gI_filter (h : Fl.Flow) (a b : Nat) : (gI h).filter (fun p => decide (p ≠ ((a : Int), (b : Int)))) = gI (h.filter fun p => decide (p ≠ (a, b))) := by
  unfold gI
  rw [List.filter_map]
  congr 1
  apply List.filter_congr
  intro p _
  simp only [Function.comp]
  rw [Bool.eq_iff_iff, decide_eq_true_iff, decide_eq_true_iff]
  constructor
  · intro z q; subst q; exact z rfl
  · intro z q
    injection q with q1 q2
    exact z (Prod.ext (by omega) (by omega))
theorem gr_step (o : List (List Int)) (g0 : Fl.Flow) (A : Nat → Option Nat) (v u : Nat) (h : Fl.Flow) (y : Option Sl × Option Sl) (hv : v < 2 * o.length + 2) (hA : A v = some u) (hc : h.length < 60000) (hok : (v, u) ∈ h ∨ (u, v) ∉ h) :
    ∃ y', gJ_grown_b1 (grE o g0 A v y) (gI h) = some (.nx (grE o g0 A u y') (gI (if (v, u) ∈ h then h.filter fun p => decide (p ≠ (v, u)) else h ++ [(u, v)]))) := by
  have c2 : (2 : Nat) ≤ cap := by rw [cap_eq]; decide
  have a1 := ahD_at (A := A) hv
  rw [hA] at a1
  replace a1 : atI (ahD (2 * o.length + 2) A) (v : Int) = some (.int (u : Int)) := a1
  refine ⟨(some (.fz (.int (u : Int))), some (.fz (.tuple [.int (v : Int), .int (u : Int)]))), ?_⟩
  unfold gJ_grown_b1 grE
  by_cases hin : (v, u) ∈ h
  · have m1 : ((v : Int), (u : Int)) ∈ gI h := (mem_gI h v u).mpr hin
    have d1 : decide (((v : Int), (u : Int)) ∈ gI h) = true := decide_eq_true m1
    have ff := gI_filter h v u
    rw [if_pos hin]
    generalize gI (h.filter fun p => decide (p ≠ (v, u))) = G2 at ff
    generalize gI h = G1 at m1 d1 ff
    generalize ahD (2 * o.length + 2) A = E1 at a1
    generalize flD g0 = FG
    simp only [List.map_cons, List.map_nil, List.length_cons, List.length_nil, List.replicate, List.cons_append, List.nil_append, List.getElem?_cons_zero, List.getElem?_cons_succ, List.set_cons_succ, List.set_cons_zero, Nat.reduceSub, Nat.zero_add, Nat.reduceAdd, Option.map_some, Option.map_none, Option.bind_some, if_true, List.length_map, List.length_range, e_setE0, e_setES, e_dOf, e_fzOf, e_fz, e_ow, e_gSl0, e_gSlS, e_gFz0, e_gFzS, e_kC, e_aNil, e_aCons, e_dLst, e_dTup, e_b2, e_pI, e_pAddI, e_pAddL, e_callD, e_bOf, e_bNot, e_bTru, e_truB, e_bAnd, e_bOr, e_vAnd, e_bYes, e_pLenL, e_pLenT, e_pAbs, e_pListOf, e_pIxL, e_pIxT, e_vIsi, e_iLst, e_iEnm, e_gNm, e_oNil, e_oSeq, e_oSet, e_oRet, e_oIf, e_oFor, e_oFrz, e_vLc, e_frz0w, e_frz0f, e_frzS, e_wipeN, e_wipeC, e_oRetV, e_oApp, e_oExt, e_iOwn, e_iOwnE, e_gTpl2, e_pEqI, e_pNeI, e_pNeB, e_pEqB, e_vChain, e_vNeg, e_vRev, e_oInt, e_dSl, e_vNot, e_vOr, e_vLc2, e_isiL, e_isiI, e_isiB, e_isBB, e_oPar, e_oAug, e_oRevS, e_vIf, e_gGh, e_vRepL, e_pInt1B, e_oAugIx, e_mUnp, e_mPar2, e_mPar3, e_xTup, e_xLst, e_allN, e_allC, e_mDrp2, e_gTpl3, e_oSwap, e_vCallT, e_xCallO, e_mIns, e_mSetIx, e_vLend, e_flatO, e_flatFB, e_flatFI, e_isB, e_isNotBB, e_oUnp, e_iZp, e_oSetIxM, e_oIns, e_oWhile, e_xPV, e_xP, e_xPB, e_xPI, e_xV, e_xFz, e_x2, e_x2N, e_xB, e_xGix, e_mNil, e_mSeq, e_mIf, e_mRet, e_mSet, e_mGset, e_mGaug, e_mLft, e_mFor, e_mApp, e_gaNil, e_gaV, e_gaG, e_xCallG, Nat.reduceLT, Nat.reduceLeDiff, e_tSeq1, e_tLft, a1, c2, e_tIf1, e_xTIn, d1, e_tDel]
    rw [if_pos m1, ff]
    simp only [List.map_cons, List.map_nil, List.length_cons, List.length_nil, List.replicate, List.cons_append, List.nil_append, List.getElem?_cons_zero, List.getElem?_cons_succ, List.set_cons_succ, List.set_cons_zero, Nat.reduceSub, Nat.zero_add, Nat.reduceAdd, Option.map_some, Option.map_none, Option.bind_some, if_true, List.length_map, List.length_range, e_setE0, e_setES, e_dOf, e_fzOf, e_fz, e_ow, e_gSl0, e_gSlS, e_gFz0, e_gFzS, e_kC, e_aNil, e_aCons, e_dLst, e_dTup, e_b2, e_pI, e_pAddI, e_pAddL, e_callD, e_bOf, e_bNot, e_bTru, e_truB, e_bAnd, e_bOr, e_vAnd, e_bYes, e_pLenL, e_pLenT, e_pAbs, e_pListOf, e_pIxL, e_pIxT, e_vIsi, e_iLst, e_iEnm, e_gNm, e_oNil, e_oSeq, e_oSet, e_oRet, e_oIf, e_oFor, e_oFrz, e_vLc, e_frz0w, e_frz0f, e_frzS, e_wipeN, e_wipeC, e_oRetV, e_oApp, e_oExt, e_iOwn, e_iOwnE, e_gTpl2, e_pEqI, e_pNeI, e_pNeB, e_pEqB, e_vChain, e_vNeg, e_vRev, e_oInt, e_dSl, e_vNot, e_vOr, e_vLc2, e_isiL, e_isiI, e_isiB, e_isBB, e_oPar, e_oAug, e_oRevS, e_vIf, e_gGh, e_vRepL, e_pInt1B, e_oAugIx, e_mUnp, e_mPar2, e_mPar3, e_xTup, e_xLst, e_allN, e_allC, e_mDrp2, e_gTpl3, e_oSwap, e_vCallT, e_xCallO, e_mIns, e_mSetIx, e_vLend, e_flatO, e_flatFB, e_flatFI, e_isB, e_isNotBB, e_oUnp, e_iZp, e_oSetIxM, e_oIns, e_oWhile, e_xPV, e_xP, e_xPB, e_xPI, e_xV, e_xFz, e_x2, e_x2N, e_xB, e_xGix, e_mNil, e_mSeq, e_mIf, e_mRet, e_mSet, e_mGset, e_mGaug, e_mLft, e_mFor, e_mApp, e_gaNil, e_gaV, e_gaG, e_xCallG, Nat.reduceLT, Nat.reduceLeDiff, e_tNil1]
  · have m1 : ¬ ((v : Int), (u : Int)) ∈ gI h := fun z => hin ((mem_gI h v u).mp z)
    have d1 : decide (((v : Int), (u : Int)) ∈ gI h) = false := decide_eq_false m1
    have m2 : ((u : Int), (v : Int)) ∉ gI h := fun z => hok.elim (fun q => hin q) fun q => q ((mem_gI h u v).mp z)
    have lg : (gI h).length < cap := by unfold gI; rw [List.length_map, cap_eq]; omega
    have m3 : ((u : Int), (v : Int)) ∉ gI h ∧ (gI h).length < cap := ⟨m2, lg⟩
    have ap : gI h ++ [((u : Int), (v : Int))] = gI (h ++ [(u, v)]) := by unfold gI; rw [List.map_append]; rfl
    rw [if_neg hin]
    generalize gI (h ++ [(u, v)]) = G2 at ap
    generalize gI h = G1 at d1 m3 ap
    generalize ahD (2 * o.length + 2) A = E1 at a1
    generalize flD g0 = FG
    simp only [List.map_cons, List.map_nil, List.length_cons, List.length_nil, List.replicate, List.cons_append, List.nil_append, List.getElem?_cons_zero, List.getElem?_cons_succ, List.set_cons_succ, List.set_cons_zero, Nat.reduceSub, Nat.zero_add, Nat.reduceAdd, Option.map_some, Option.map_none, Option.bind_some, if_true, List.length_map, List.length_range, e_setE0, e_setES, e_dOf, e_fzOf, e_fz, e_ow, e_gSl0, e_gSlS, e_gFz0, e_gFzS, e_kC, e_aNil, e_aCons, e_dLst, e_dTup, e_b2, e_pI, e_pAddI, e_pAddL, e_callD, e_bOf, e_bNot, e_bTru, e_truB, e_bAnd, e_bOr, e_vAnd, e_bYes, e_pLenL, e_pLenT, e_pAbs, e_pListOf, e_pIxL, e_pIxT, e_vIsi, e_iLst, e_iEnm, e_gNm, e_oNil, e_oSeq, e_oSet, e_oRet, e_oIf, e_oFor, e_oFrz, e_vLc, e_frz0w, e_frz0f, e_frzS, e_wipeN, e_wipeC, e_oRetV, e_oApp, e_oExt, e_iOwn, e_iOwnE, e_gTpl2, e_pEqI, e_pNeI, e_pNeB, e_pEqB, e_vChain, e_vNeg, e_vRev, e_oInt, e_dSl, e_vNot, e_vOr, e_vLc2, e_isiL, e_isiI, e_isiB, e_isBB, e_oPar, e_oAug, e_oRevS, e_vIf, e_gGh, e_vRepL, e_pInt1B, e_oAugIx, e_mUnp, e_mPar2, e_mPar3, e_xTup, e_xLst, e_allN, e_allC, e_mDrp2, e_gTpl3, e_oSwap, e_vCallT, e_xCallO, e_mIns, e_mSetIx, e_vLend, e_flatO, e_flatFB, e_flatFI, e_isB, e_isNotBB, e_oUnp, e_iZp, e_oSetIxM, e_oIns, e_oWhile, e_xPV, e_xP, e_xPB, e_xPI, e_xV, e_xFz, e_x2, e_x2N, e_xB, e_xGix, e_mNil, e_mSeq, e_mIf, e_mRet, e_mSet, e_mGset, e_mGaug, e_mLft, e_mFor, e_mApp, e_gaNil, e_gaV, e_gaG, e_xCallG, Nat.reduceLT, Nat.reduceLeDiff, e_tSeq1, e_tLft, a1, c2, e_tIf1, e_xTIn, d1, e_tPut2]
    rw [if_pos m3, ap]
    simp only [List.map_cons, List.map_nil, List.length_cons, List.length_nil, List.replicate, List.cons_append, List.nil_append, List.getElem?_cons_zero, List.getElem?_cons_succ, List.set_cons_succ, List.set_cons_zero, Nat.reduceSub, Nat.zero_add, Nat.reduceAdd, Option.map_some, Option.map_none, Option.bind_some, if_true, List.length_map, List.length_range, e_setE0, e_setES, e_dOf, e_fzOf, e_fz, e_ow, e_gSl0, e_gSlS, e_gFz0, e_gFzS, e_kC, e_aNil, e_aCons, e_dLst, e_dTup, e_b2, e_pI, e_pAddI, e_pAddL, e_callD, e_bOf, e_bNot, e_bTru, e_truB, e_bAnd, e_bOr, e_vAnd, e_bYes, e_pLenL, e_pLenT, e_pAbs, e_pListOf, e_pIxL, e_pIxT, e_vIsi, e_iLst, e_iEnm, e_gNm, e_oNil, e_oSeq, e_oSet, e_oRet, e_oIf, e_oFor, e_oFrz, e_vLc, e_frz0w, e_frz0f, e_frzS, e_wipeN, e_wipeC, e_oRetV, e_oApp, e_oExt, e_iOwn, e_iOwnE, e_gTpl2, e_pEqI, e_pNeI, e_pNeB, e_pEqB, e_vChain, e_vNeg, e_vRev, e_oInt, e_dSl, e_vNot, e_vOr, e_vLc2, e_isiL, e_isiI, e_isiB, e_isBB, e_oPar, e_oAug, e_oRevS, e_vIf, e_gGh, e_vRepL, e_pInt1B, e_oAugIx, e_mUnp, e_mPar2, e_mPar3, e_xTup, e_xLst, e_allN, e_allC, e_mDrp2, e_gTpl3, e_oSwap, e_vCallT, e_xCallO, e_mIns, e_mSetIx, e_vLend, e_flatO, e_flatFB, e_flatFI, e_isB, e_isNotBB, e_oUnp, e_iZp, e_oSetIxM, e_oIns, e_oWhile, e_xPV, e_xP, e_xPB, e_xPI, e_xV, e_xFz, e_x2, e_x2N, e_xB, e_xGix, e_mNil, e_mSeq, e_mIf, e_mRet, e_mSet, e_mGset, e_mGaug, e_mLft, e_mFor, e_mApp, e_gaNil, e_gaV, e_gaG, e_xCallG, Nat.reduceLT, Nat.reduceLeDiff, e_tNil1]
theorem gr_walk (o : List (List Int)) (g0 : Fl.Flow) (A : Nat → Option Nat) (hA : ∀ v u, v < 2 * o.length + 2 → A v = some u → u < 2 * o.length + 2) : ∀ (k v : Nat) (h h' : Fl.Flow) (y : Option Sl × Option Sl), v < 2 * o.length + 2 → h.length + k ≤ 50000 → Fl.grw A k v h = some h' →
    ∃ v' y', whileT (xTB (bOf (b2 (pIsB true) (dOf (b2 pIx (gSl 2) (gSl 5))) (kC .none)))) gJ_grown_b1 k (grE o g0 A v y) (gI h) = some (.nx (grE o g0 A v' y') (gI h'))
  | 0, _, _, _, _, _, _, e => by cases e
  | k + 1, v, h, h', y, hv, hc, e => by
    unfold Fl.grw at e
    unfold whileT
    have a1 := ahD_at (A := A) hv
    cases q : A v with
    | none =>
      rw [q] at e a1
      cases e
      replace a1 : atI (ahD (2 * o.length + 2) A) (v : Int) = some .none := a1
      have c : xTB (bOf (b2 (pIsB true) (dOf (b2 pIx (gSl 2) (gSl 5))) (kC .none))) (grE o g0 A v y) (gI h) = some (false, gI h) := by
        unfold grE
        generalize ahD (2 * o.length + 2) A = E1 at a1
        generalize flD g0 = FG
        simp only [List.map_cons, List.map_nil, List.length_cons, List.length_nil, List.replicate, List.cons_append, List.nil_append, List.getElem?_cons_zero, List.getElem?_cons_succ, List.set_cons_succ, List.set_cons_zero, Nat.reduceSub, Nat.zero_add, Nat.reduceAdd, Option.map_some, Option.map_none, Option.bind_some, if_true, List.length_map, List.length_range, e_setE0, e_setES, e_dOf, e_fzOf, e_fz, e_ow, e_gSl0, e_gSlS, e_gFz0, e_gFzS, e_kC, e_aNil, e_aCons, e_dLst, e_dTup, e_b2, e_pI, e_pAddI, e_pAddL, e_callD, e_bOf, e_bNot, e_bTru, e_truB, e_bAnd, e_bOr, e_vAnd, e_bYes, e_pLenL, e_pLenT, e_pAbs, e_pListOf, e_pIxL, e_pIxT, e_vIsi, e_iLst, e_iEnm, e_gNm, e_oNil, e_oSeq, e_oSet, e_oRet, e_oIf, e_oFor, e_oFrz, e_vLc, e_frz0w, e_frz0f, e_frzS, e_wipeN, e_wipeC, e_oRetV, e_oApp, e_oExt, e_iOwn, e_iOwnE, e_gTpl2, e_pEqI, e_pNeI, e_pNeB, e_pEqB, e_vChain, e_vNeg, e_vRev, e_oInt, e_dSl, e_vNot, e_vOr, e_vLc2, e_isiL, e_isiI, e_isiB, e_isBB, e_oPar, e_oAug, e_oRevS, e_vIf, e_gGh, e_vRepL, e_pInt1B, e_oAugIx, e_mUnp, e_mPar2, e_mPar3, e_xTup, e_xLst, e_allN, e_allC, e_mDrp2, e_gTpl3, e_oSwap, e_vCallT, e_xCallO, e_mIns, e_mSetIx, e_vLend, e_flatO, e_flatFB, e_flatFI, e_isB, e_isNotBB, e_oUnp, e_iZp, e_oSetIxM, e_oIns, e_oWhile, e_xPV, e_xP, e_xPB, e_xPI, e_xV, e_xFz, e_x2, e_x2N, e_xB, e_xGix, e_mNil, e_mSeq, e_mIf, e_mRet, e_mSet, e_mGset, e_mGaug, e_mLft, e_mFor, e_mApp, e_gaNil, e_gaV, e_gaG, e_xCallG, Nat.reduceLT, Nat.reduceLeDiff, e_xTB, a1]
        rfl
      rw [c]
      exact ⟨v, y, rfl⟩
    | some u =>
      rw [q] at e a1
      replace a1 : atI (ahD (2 * o.length + 2) A) (v : Int) = some (.int (u : Int)) := a1
      have c : xTB (bOf (b2 (pIsB true) (dOf (b2 pIx (gSl 2) (gSl 5))) (kC .none))) (grE o g0 A v y) (gI h) = some (true, gI h) := by
        unfold grE
        generalize ahD (2 * o.length + 2) A = E1 at a1
        generalize flD g0 = FG
        simp only [List.map_cons, List.map_nil, List.length_cons, List.length_nil, List.replicate, List.cons_append, List.nil_append, List.getElem?_cons_zero, List.getElem?_cons_succ, List.set_cons_succ, List.set_cons_zero, Nat.reduceSub, Nat.zero_add, Nat.reduceAdd, Option.map_some, Option.map_none, Option.bind_some, if_true, List.length_map, List.length_range, e_setE0, e_setES, e_dOf, e_fzOf, e_fz, e_ow, e_gSl0, e_gSlS, e_gFz0, e_gFzS, e_kC, e_aNil, e_aCons, e_dLst, e_dTup, e_b2, e_pI, e_pAddI, e_pAddL, e_callD, e_bOf, e_bNot, e_bTru, e_truB, e_bAnd, e_bOr, e_vAnd, e_bYes, e_pLenL, e_pLenT, e_pAbs, e_pListOf, e_pIxL, e_pIxT, e_vIsi, e_iLst, e_iEnm, e_gNm, e_oNil, e_oSeq, e_oSet, e_oRet, e_oIf, e_oFor, e_oFrz, e_vLc, e_frz0w, e_frz0f, e_frzS, e_wipeN, e_wipeC, e_oRetV, e_oApp, e_oExt, e_iOwn, e_iOwnE, e_gTpl2, e_pEqI, e_pNeI, e_pNeB, e_pEqB, e_vChain, e_vNeg, e_vRev, e_oInt, e_dSl, e_vNot, e_vOr, e_vLc2, e_isiL, e_isiI, e_isiB, e_isBB, e_oPar, e_oAug, e_oRevS, e_vIf, e_gGh, e_vRepL, e_pInt1B, e_oAugIx, e_mUnp, e_mPar2, e_mPar3, e_xTup, e_xLst, e_allN, e_allC, e_mDrp2, e_gTpl3, e_oSwap, e_vCallT, e_xCallO, e_mIns, e_mSetIx, e_vLend, e_flatO, e_flatFB, e_flatFI, e_isB, e_isNotBB, e_oUnp, e_iZp, e_oSetIxM, e_oIns, e_oWhile, e_xPV, e_xP, e_xPB, e_xPI, e_xV, e_xFz, e_x2, e_x2N, e_xB, e_xGix, e_mNil, e_mSeq, e_mIf, e_mRet, e_mSet, e_mGset, e_mGaug, e_mLft, e_mFor, e_mApp, e_gaNil, e_gaV, e_gaG, e_xCallG, Nat.reduceLT, Nat.reduceLeDiff, e_xTB, a1]
        rfl
      rw [c]
      dsimp only at e ⊢
      by_cases hin : (v, u) ∈ h
      · rw [if_pos hin] at e
        obtain ⟨y1, e1⟩ := gr_step o g0 A v u h y hv q (by omega) (.inl hin)
        rw [if_pos hin] at e1
        obtain ⟨v2, y2, e2⟩ := gr_walk o g0 A hA k u _ h' y1 (hA v u hv q) (by have := List.length_filter_le (fun p : Nat × Nat => decide (p ≠ (v, u))) h; omega) e
        rw [e1]
        exact ⟨v2, y2, e2⟩
      · rw [if_neg hin] at e
        split at e
        · next hn =>
          obtain ⟨y1, e1⟩ := gr_step o g0 A v u h y hv q (by omega) (.inr hn)
          rw [if_neg hin] at e1
          obtain ⟨v2, y2, e2⟩ := gr_walk o g0 A hA k u _ h' y1 (hA v u hv q) (by rw [List.length_append, List.length_singleton]; omega) e
          rw [e1]
          exact ⟨v2, y2, e2⟩
        · cases e
theorem grown_spec (o : List (List Int)) (hl : o.length ≤ 14) (g g' : Fl.Flow) (A : Nat → Option Nat) (hA : ∀ v u, v < 2 * o.length + 2 → A v = some u → u < 2 * o.length + 2) (nd : g.Nodup) (hg : g.length ≤ 1000) (e : Fl.grw A FUEL (2 * o.length + 1) g = some g') :
    m_grown [.list (rows o), flD g, .list (ahD (2 * o.length + 2) A)] = some (.fz (flD g')) := by
  have F1 : FUEL = 1000 := by unfold FUEL; rw [big_eq]
  obtain ⟨v', y', w⟩ := gr_walk o g A hA FUEL (2 * o.length + 1) g g' (none, none) (by omega) (by rw [F1]; omega) e
  have sk := sink_s o
  have ndI : (gI g).Nodup := by
    unfold gI
    refine List.pairwise_map.mpr (nd.imp fun {a b} hab z => hab ?_)
    injection z with z1 z2
    exact Prod.ext (by omega) (by omega)
  have lI : (gI g).length < cap := by unfold gI; rw [List.length_map, cap_eq]; omega
  have cond : (gI g).Nodup ∧ (gI g).length < cap := ⟨ndI, lI⟩
  show (undic (dicD (gI g))).bind (fun l => if l.Nodup ∧ l.length < cap then (gJ_grown [some (.fz (.list (rows o))), some (.fz (flD g)), some (.fz (.list (ahD (2 * o.length + 2) A))), none, none, none, none, none] l).map fun g' => Sl.fz (.dict (dicD g')) else none) = _
  rw [undic_dic, Option.bind_some, if_pos cond]
  have run : gJ_grown [some (.fz (.list (rows o))), some (.fz (flD g)), some (.fz (.list (ahD (2 * o.length + 2) A))), none, none, none, none, none] (gI g) = some (gI g') := by
    unfold gJ_grown
    show (match tLft (oSet 5 (fzOf (dOf (callD m_sink (aCons (gFz 0) aNil))))) [some (.fz (.list (rows o))), some (.fz (flD g)), some (.fz (.list (ahD (2 * o.length + 2) A))), none, none, none, none, none] (gI g) with
      | some (.nx Γ' l') => jSeq (whileT (xTB (bOf (b2 (pIsB true) (dOf (b2 pIx (gSl 2) (gSl 5))) (kC .none)))) gJ_grown_b1 FUEL) jRet Γ' l'
      | _ => none) = _
    have s1 : tLft (oSet 5 (fzOf (dOf (callD m_sink (aCons (gFz 0) aNil))))) [some (.fz (.list (rows o))), some (.fz (flD g)), some (.fz (.list (ahD (2 * o.length + 2) A))), none, none, none, none, none] (gI g) = some (.nx (grE o g A (2 * o.length + 1) (none, none)) (gI g)) := by
      unfold grE
      rw [show ((2 * o.length + 1 : Nat) : Int) = 2 * (o.length : Int) + 1 by omega]
      generalize m_sink = q1 at sk
      generalize ahD (2 * o.length + 2) A = E1
      generalize flD g = FG
      simp only [List.map_cons, List.map_nil, List.length_cons, List.length_nil, List.replicate, List.cons_append, List.nil_append, List.getElem?_cons_zero, List.getElem?_cons_succ, List.set_cons_succ, List.set_cons_zero, Nat.reduceSub, Nat.zero_add, Nat.reduceAdd, Option.map_some, Option.map_none, Option.bind_some, if_true, List.length_map, List.length_range, e_setE0, e_setES, e_dOf, e_fzOf, e_fz, e_ow, e_gSl0, e_gSlS, e_gFz0, e_gFzS, e_kC, e_aNil, e_aCons, e_dLst, e_dTup, e_b2, e_pI, e_pAddI, e_pAddL, e_callD, e_bOf, e_bNot, e_bTru, e_truB, e_bAnd, e_bOr, e_vAnd, e_bYes, e_pLenL, e_pLenT, e_pAbs, e_pListOf, e_pIxL, e_pIxT, e_vIsi, e_iLst, e_iEnm, e_gNm, e_oNil, e_oSeq, e_oSet, e_oRet, e_oIf, e_oFor, e_oFrz, e_vLc, e_frz0w, e_frz0f, e_frzS, e_wipeN, e_wipeC, e_oRetV, e_oApp, e_oExt, e_iOwn, e_iOwnE, e_gTpl2, e_pEqI, e_pNeI, e_pNeB, e_pEqB, e_vChain, e_vNeg, e_vRev, e_oInt, e_dSl, e_vNot, e_vOr, e_vLc2, e_isiL, e_isiI, e_isiB, e_isBB, e_oPar, e_oAug, e_oRevS, e_vIf, e_gGh, e_vRepL, e_pInt1B, e_oAugIx, e_mUnp, e_mPar2, e_mPar3, e_xTup, e_xLst, e_allN, e_allC, e_mDrp2, e_gTpl3, e_oSwap, e_vCallT, e_xCallO, e_mIns, e_mSetIx, e_vLend, e_flatO, e_flatFB, e_flatFI, e_isB, e_isNotBB, e_oUnp, e_iZp, e_oSetIxM, e_oIns, e_oWhile, e_xPV, e_xP, e_xPB, e_xPI, e_xV, e_xFz, e_x2, e_x2N, e_xB, e_xGix, e_mNil, e_mSeq, e_mIf, e_mRet, e_mSet, e_mGset, e_mGaug, e_mLft, e_mFor, e_mApp, e_gaNil, e_gaV, e_gaG, e_xCallG, Nat.reduceLT, Nat.reduceLeDiff, e_tLft, sk]
    rw [s1]
    show (match whileT (xTB (bOf (b2 (pIsB true) (dOf (b2 pIx (gSl 2) (gSl 5))) (kC .none)))) gJ_grown_b1 FUEL (grE o g A (2 * o.length + 1) (none, none)) (gI g) with
      | some (.nx Γ' l') => jRet Γ' l'
      | _ => none) = _
    rw [w]
    rfl
  rw [run]
  rfl
def chI (c : List Nat) : List Int := c.map fun (x : Nat) => (x : Int)
def chR (C : List (List Nat)) : List (List Int) := C.map chI
theorem chI_last (c : List Nat) (h : c ≠ []) : atI (nums (chI c)) (-1) = some (.int ((c.getLastD 0 : Nat) : Int)) := by
  have e : c = c.dropLast ++ [c.getLastD 0] := by
    rw [List.getLastD_eq_getLast?, List.getLast?_eq_some_getLast h]
    exact (List.dropLast_concat_getLast h).symm
  have e2 : chI c = chI c.dropLast ++ [((c.getLastD 0 : Nat) : Int)] := by
    conv => lhs; rw [e]
    unfold chI; rw [List.map_append]; rfl
  rw [e2]
  exact atI_lastN _ _
theorem chain_step (o : List (List Int)) (g : Fl.Flow) (t : Nat) (c : List Nat) (x : Nat) (hc : c ≠ []) (hl : c.length < 1000) :
    g_chain_from_b1 [some (.fz (.list (rows o))), some (.fz (flD g)), some (.fz (.int (t : Int))), some (.ow (nums (chI c))), some (.fz (.int (x : Int)))] = some (.nx [some (.fz (.list (rows o))), some (.fz (flD g)), some (.fz (.int (t : Int))), some (.ow (nums (chI (Fl.stepC g c x)))), some (.fz (.int (x : Int)))]) := by
  have c2 : (2 : Nat) ≤ cap := by rw [cap_eq]; decide
  have la := chI_last c hc
  have f1 := head_s ((c.getLastD 0 : Nat) : Int)
  have f2 := foot_s (x : Int)
  have pi := pIn_fl g (2 * c.getLastD 0 + 1) (2 * x)
  rw [show ((2 * c.getLastD 0 + 1 : Nat) : Int) = 2 * ((c.getLastD 0 : Nat) : Int) + 1 by omega, show ((2 * x : Nat) : Int) = 2 * (x : Int) by omega] at pi
  have ll : (nums (chI c)).length < cap := by unfold chI nums; rw [List.length_map, List.length_map, cap_eq]; omega
  unfold g_chain_from_b1 Fl.stepC
  by_cases hin : (2 * c.getLastD 0 + 1, 2 * x) ∈ g
  · rw [decide_eq_true hin] at pi
    rw [if_pos hin]
    have ap : nums (chI c) ++ [.int (x : Int)] = nums (chI (c ++ [x])) := by unfold chI nums; rw [List.map_append, List.map_append]; rfl
    generalize nums (chI (c ++ [x])) = D2 at ap
    generalize nums (chI c) = D1 at la ll ap
    generalize m_head = q1 at f1
    generalize m_foot = q2 at f2
    generalize flD g = G at pi
    generalize ((c.getLastD 0 : Nat) : Int) = z at la f1 pi
    simp only [List.map_cons, List.map_nil, List.length_cons, List.length_nil, List.replicate, List.cons_append, List.nil_append, List.getElem?_cons_zero, List.getElem?_cons_succ, List.set_cons_succ, List.set_cons_zero, Nat.reduceSub, Nat.zero_add, Nat.reduceAdd, Option.map_some, Option.map_none, Option.bind_some, if_true, List.length_map, List.length_range, e_setE0, e_setES, e_dOf, e_fzOf, e_fz, e_ow, e_gSl0, e_gSlS, e_gFz0, e_gFzS, e_kC, e_aNil, e_aCons, e_dLst, e_dTup, e_b2, e_pI, e_pAddI, e_pAddL, e_callD, e_bOf, e_bNot, e_bTru, e_truB, e_bAnd, e_bOr, e_vAnd, e_bYes, e_pLenL, e_pLenT, e_pAbs, e_pListOf, e_pIxL, e_pIxT, e_vIsi, e_iLst, e_iEnm, e_gNm, e_oNil, e_oSeq, e_oSet, e_oRet, e_oIf, e_oFor, e_oFrz, e_vLc, e_frz0w, e_frz0f, e_frzS, e_wipeN, e_wipeC, e_oRetV, e_oApp, e_oExt, e_iOwn, e_iOwnE, e_gTpl2, e_pEqI, e_pNeI, e_pNeB, e_pEqB, e_vChain, e_vNeg, e_vRev, e_oInt, e_dSl, e_vNot, e_vOr, e_vLc2, e_isiL, e_isiI, e_isiB, e_isBB, e_oPar, e_oAug, e_oRevS, e_vIf, e_gGh, e_vRepL, e_pInt1B, e_oAugIx, e_mUnp, e_mPar2, e_mPar3, e_xTup, e_xLst, e_allN, e_allC, e_mDrp2, e_gTpl3, e_oSwap, e_vCallT, e_xCallO, e_mIns, e_mSetIx, e_vLend, e_flatO, e_flatFB, e_flatFI, e_isB, e_isNotBB, e_oUnp, e_iZp, e_oSetIxM, e_oIns, e_oWhile, e_xPV, e_xP, e_xPB, e_xPI, e_xV, e_xFz, e_x2, e_x2N, e_xB, e_xGix, e_mNil, e_mSeq, e_mIf, e_mRet, e_mSet, e_mGset, e_mGaug, e_mLft, e_mFor, e_mApp, e_gaNil, e_gaV, e_gaG, e_xCallG, Nat.reduceLT, Nat.reduceLeDiff, la, f1, f2, c2, pi, ll, ap]
  · rw [decide_eq_false hin] at pi
    rw [if_neg hin]
    generalize nums (chI c) = D1 at la ll
    generalize m_head = q1 at f1
    generalize m_foot = q2 at f2
    generalize flD g = G at pi
    generalize ((c.getLastD 0 : Nat) : Int) = z at la f1 pi
    simp only [List.map_cons, List.map_nil, List.length_cons, List.length_nil, List.replicate, List.cons_append, List.nil_append, List.getElem?_cons_zero, List.getElem?_cons_succ, List.set_cons_succ, List.set_cons_zero, Nat.reduceSub, Nat.zero_add, Nat.reduceAdd, Option.map_some, Option.map_none, Option.bind_some, if_true, List.length_map, List.length_range, e_setE0, e_setES, e_dOf, e_fzOf, e_fz, e_ow, e_gSl0, e_gSlS, e_gFz0, e_gFzS, e_kC, e_aNil, e_aCons, e_dLst, e_dTup, e_b2, e_pI, e_pAddI, e_pAddL, e_callD, e_bOf, e_bNot, e_bTru, e_truB, e_bAnd, e_bOr, e_vAnd, e_bYes, e_pLenL, e_pLenT, e_pAbs, e_pListOf, e_pIxL, e_pIxT, e_vIsi, e_iLst, e_iEnm, e_gNm, e_oNil, e_oSeq, e_oSet, e_oRet, e_oIf, e_oFor, e_oFrz, e_vLc, e_frz0w, e_frz0f, e_frzS, e_wipeN, e_wipeC, e_oRetV, e_oApp, e_oExt, e_iOwn, e_iOwnE, e_gTpl2, e_pEqI, e_pNeI, e_pNeB, e_pEqB, e_vChain, e_vNeg, e_vRev, e_oInt, e_dSl, e_vNot, e_vOr, e_vLc2, e_isiL, e_isiI, e_isiB, e_isBB, e_oPar, e_oAug, e_oRevS, e_vIf, e_gGh, e_vRepL, e_pInt1B, e_oAugIx, e_mUnp, e_mPar2, e_mPar3, e_xTup, e_xLst, e_allN, e_allC, e_mDrp2, e_gTpl3, e_oSwap, e_vCallT, e_xCallO, e_mIns, e_mSetIx, e_vLend, e_flatO, e_flatFB, e_flatFI, e_isB, e_isNotBB, e_oUnp, e_iZp, e_oSetIxM, e_oIns, e_oWhile, e_xPV, e_xP, e_xPB, e_xPI, e_xV, e_xFz, e_x2, e_x2N, e_xB, e_xGix, e_mNil, e_mSeq, e_mIf, e_mRet, e_mSet, e_mGset, e_mGaug, e_mLft, e_mFor, e_mApp, e_gaNil, e_gaV, e_gaG, e_xCallG, Nat.reduceLT, Nat.reduceLeDiff, la, f1, f2, c2, pi]
theorem stepC_ne (g : Fl.Flow) (c : List Nat) (x : Nat) (h : c ≠ []) : Fl.stepC g c x ≠ [] := by
  unfold Fl.stepC
  split
  · simp
  · exact h
theorem chain_loop (o : List (List Int)) (g : Fl.Flow) (t : Nat) : ∀ (xs : List Nat) (c : List Nat) (y : Option Sl), c ≠ [] → c.length + xs.length < 1000 → ∃ y', forD (gNm 4) g_chain_from_b1 (xs.map fun (k : Nat) => PyData.int (k : Int)) [some (.fz (.list (rows o))), some (.fz (flD g)), some (.fz (.int (t : Int))), some (.ow (nums (chI c))), y] = some (.nx [some (.fz (.list (rows o))), some (.fz (flD g)), some (.fz (.int (t : Int))), some (.ow (nums (chI (xs.foldl (Fl.stepC g) c)))), y'])
  | [], c, y, _, _ => ⟨y, rfl⟩
  | x :: xs, c, y, hc, hl => by
    rw [List.length_cons] at hl
    have s := chain_step o g t c x hc (by omega)
    have ls : (Fl.stepC g c x).length ≤ c.length + 1 := by
      unfold Fl.stepC
      split
      · simp
      · omega
    obtain ⟨y', e⟩ := chain_loop o g t xs (Fl.stepC g c x) (some (.fz (.int (x : Int)))) (stepC_ne g c x hc) (by omega)
    refine ⟨y', ?_⟩
    rw [List.map_cons, List.foldl_cons]
    unfold forD
    generalize nums (chI (Fl.stepC g c x)) = D2 at s e
    generalize nums (chI (xs.foldl (Fl.stepC g) (Fl.stepC g c x))) = D3 at e
    generalize nums (chI c) = D1 at s
    generalize flD g = G at s e
    generalize g_chain_from_b1 = b1 at s e
    simp only [List.map_cons, List.map_nil, List.length_cons, List.length_nil, List.replicate, List.cons_append, List.nil_append, List.getElem?_cons_zero, List.getElem?_cons_succ, List.set_cons_succ, List.set_cons_zero, Nat.reduceSub, Nat.zero_add, Nat.reduceAdd, Option.map_some, Option.map_none, Option.bind_some, if_true, List.length_map, List.length_range, e_setE0, e_setES, e_dOf, e_fzOf, e_fz, e_ow, e_gSl0, e_gSlS, e_gFz0, e_gFzS, e_kC, e_aNil, e_aCons, e_dLst, e_dTup, e_b2, e_pI, e_pAddI, e_pAddL, e_callD, e_bOf, e_bNot, e_bTru, e_truB, e_bAnd, e_bOr, e_vAnd, e_bYes, e_pLenL, e_pLenT, e_pAbs, e_pListOf, e_pIxL, e_pIxT, e_vIsi, e_iLst, e_iEnm, e_gNm, e_oNil, e_oSeq, e_oSet, e_oRet, e_oIf, e_oFor, e_oFrz, e_vLc, e_frz0w, e_frz0f, e_frzS, e_wipeN, e_wipeC, e_oRetV, e_oApp, e_oExt, e_iOwn, e_iOwnE, e_gTpl2, e_pEqI, e_pNeI, e_pNeB, e_pEqB, e_vChain, e_vNeg, e_vRev, e_oInt, e_dSl, e_vNot, e_vOr, e_vLc2, e_isiL, e_isiI, e_isiB, e_isBB, e_oPar, e_oAug, e_oRevS, e_vIf, e_gGh, e_vRepL, e_pInt1B, e_oAugIx, e_mUnp, e_mPar2, e_mPar3, e_xTup, e_xLst, e_allN, e_allC, e_mDrp2, e_gTpl3, e_oSwap, e_vCallT, e_xCallO, e_mIns, e_mSetIx, e_vLend, e_flatO, e_flatFB, e_flatFI, e_isB, e_isNotBB, e_oUnp, e_iZp, e_oSetIxM, e_oIns, e_oWhile, e_xPV, e_xP, e_xPB, e_xPI, e_xV, e_xFz, e_x2, e_x2N, e_xB, e_xGix, e_mNil, e_mSeq, e_mIf, e_mRet, e_mSet, e_mGset, e_mGaug, e_mLft, e_mFor, e_mApp, e_gaNil, e_gaV, e_gaG, e_xCallG, Nat.reduceLT, Nat.reduceLeDiff, s]
    exact e
theorem chain_spec (o : List (List Int)) (hl : o.length ≤ 14) (g : Fl.Flow) (t : Nat) (ht : t < o.length) : m_chain_from [.list (rows o), flD g, .int (t : Int)] = some (.ow (nums (chI (Fl.chainF g o.length t)))) := by
  have c1 : (1 : Nat) ≤ cap := by rw [cap_eq]; decide
  have lr : (rows o).length = o.length := by unfold rows; rw [List.length_map]
  obtain ⟨y', e⟩ := chain_loop o g t (List.range' (t + 1) (o.length - (t + 1))) [t] none (by simp) (by simp; omega)
  have it : ∀ y3 y4, iR2 (dOf (b2 pAdd (gSl 2) (kC (.int 1)))) (dOf (callD pLen (aCons (gSl 0) aNil))) [some (.fz (.list (rows o))), some (.fz (flD g)), some (.fz (.int (t : Int))), y3, y4] = some ((List.range' (t + 1) (o.length - (t + 1))).map fun (k : Nat) => PyData.int (k : Int)) := fun y3 y4 => by
    rw [Tb.iR2_nat (a := t + 1) (b := o.length) (by generalize flD g = G; simp only [List.map_cons, List.map_nil, List.length_cons, List.length_nil, List.replicate, List.cons_append, List.nil_append, List.getElem?_cons_zero, List.getElem?_cons_succ, List.set_cons_succ, List.set_cons_zero, Nat.reduceSub, Nat.zero_add, Nat.reduceAdd, Option.map_some, Option.map_none, Option.bind_some, if_true, List.length_map, List.length_range, e_setE0, e_setES, e_dOf, e_fzOf, e_fz, e_ow, e_gSl0, e_gSlS, e_gFz0, e_gFzS, e_kC, e_aNil, e_aCons, e_dLst, e_dTup, e_b2, e_pI, e_pAddI, e_pAddL, e_callD, e_bOf, e_bNot, e_bTru, e_truB, e_bAnd, e_bOr, e_vAnd, e_bYes, e_pLenL, e_pLenT, e_pAbs, e_pListOf, e_pIxL, e_pIxT, e_vIsi, e_iLst, e_iEnm, e_gNm, e_oNil, e_oSeq, e_oSet, e_oRet, e_oIf, e_oFor, e_oFrz, e_vLc, e_frz0w, e_frz0f, e_frzS, e_wipeN, e_wipeC, e_oRetV, e_oApp, e_oExt, e_iOwn, e_iOwnE, e_gTpl2, e_pEqI, e_pNeI, e_pNeB, e_pEqB, e_vChain, e_vNeg, e_vRev, e_oInt, e_dSl, e_vNot, e_vOr, e_vLc2, e_isiL, e_isiI, e_isiB, e_isBB, e_oPar, e_oAug, e_oRevS, e_vIf, e_gGh, e_vRepL, e_pInt1B, e_oAugIx, e_mUnp, e_mPar2, e_mPar3, e_xTup, e_xLst, e_allN, e_allC, e_mDrp2, e_gTpl3, e_oSwap, e_vCallT, e_xCallO, e_mIns, e_mSetIx, e_vLend, e_flatO, e_flatFB, e_flatFI, e_isB, e_isNotBB, e_oUnp, e_iZp, e_oSetIxM, e_oIns, e_oWhile, e_xPV, e_xP, e_xPB, e_xPI, e_xV, e_xFz, e_x2, e_x2N, e_xB, e_xGix, e_mNil, e_mSeq, e_mIf, e_mRet, e_mSet, e_mGset, e_mGaug, e_mLft, e_mFor, e_mApp, e_gaNil, e_gaV, e_gaG, e_xCallG, Nat.reduceLT, Nat.reduceLeDiff]; rfl) (by generalize flD g = G; simp only [List.map_cons, List.map_nil, List.length_cons, List.length_nil, List.replicate, List.cons_append, List.nil_append, List.getElem?_cons_zero, List.getElem?_cons_succ, List.set_cons_succ, List.set_cons_zero, Nat.reduceSub, Nat.zero_add, Nat.reduceAdd, Option.map_some, Option.map_none, Option.bind_some, if_true, List.length_map, List.length_range, e_setE0, e_setES, e_dOf, e_fzOf, e_fz, e_ow, e_gSl0, e_gSlS, e_gFz0, e_gFzS, e_kC, e_aNil, e_aCons, e_dLst, e_dTup, e_b2, e_pI, e_pAddI, e_pAddL, e_callD, e_bOf, e_bNot, e_bTru, e_truB, e_bAnd, e_bOr, e_vAnd, e_bYes, e_pLenL, e_pLenT, e_pAbs, e_pListOf, e_pIxL, e_pIxT, e_vIsi, e_iLst, e_iEnm, e_gNm, e_oNil, e_oSeq, e_oSet, e_oRet, e_oIf, e_oFor, e_oFrz, e_vLc, e_frz0w, e_frz0f, e_frzS, e_wipeN, e_wipeC, e_oRetV, e_oApp, e_oExt, e_iOwn, e_iOwnE, e_gTpl2, e_pEqI, e_pNeI, e_pNeB, e_pEqB, e_vChain, e_vNeg, e_vRev, e_oInt, e_dSl, e_vNot, e_vOr, e_vLc2, e_isiL, e_isiI, e_isiB, e_isBB, e_oPar, e_oAug, e_oRevS, e_vIf, e_gGh, e_vRepL, e_pInt1B, e_oAugIx, e_mUnp, e_mPar2, e_mPar3, e_xTup, e_xLst, e_allN, e_allC, e_mDrp2, e_gTpl3, e_oSwap, e_vCallT, e_xCallO, e_mIns, e_mSetIx, e_vLend, e_flatO, e_flatFB, e_flatFI, e_isB, e_isNotBB, e_oUnp, e_iZp, e_oSetIxM, e_oIns, e_oWhile, e_xPV, e_xP, e_xPB, e_xPI, e_xV, e_xFz, e_x2, e_x2N, e_xB, e_xGix, e_mNil, e_mSeq, e_mIf, e_mRet, e_mSet, e_mGset, e_mGaug, e_mLft, e_mFor, e_mApp, e_gaNil, e_gaV, e_gaG, e_xCallG, Nat.reduceLT, Nat.reduceLeDiff, lr]) (by omega) (by omega)]
    rw [List.range'_eq_map_range, List.map_map]
    rfl
  have e' : forD (gNm 4) g_chain_from_b1 ((List.range' (t + 1) (o.length - (t + 1))).map fun (k : Nat) => PyData.int (k : Int)) [some (.fz (.list (rows o))), some (.fz (flD g)), some (.fz (.int (t : Int))), some (.ow [.int (t : Int)]), none] = some (.nx [some (.fz (.list (rows o))), some (.fz (flD g)), some (.fz (.int (t : Int))), some (.ow (nums (chI (Fl.chainF g o.length t)))), y']) := e
  unfold m_chain_from mirror g_chain_from startE
  generalize nums (chI (Fl.chainF g o.length t)) = D2 at e'
  generalize ((List.range' (t + 1) (o.length - (t + 1))).map fun (k : Nat) => PyData.int (k : Int)) = IX at it e'
  generalize flD g = G at it e'
  generalize g_chain_from_b1 = b1 at e'
  simp only [List.map_cons, List.map_nil, List.length_cons, List.length_nil, List.replicate, List.cons_append, List.nil_append, List.getElem?_cons_zero, List.getElem?_cons_succ, List.set_cons_succ, List.set_cons_zero, Nat.reduceSub, Nat.zero_add, Nat.reduceAdd, Option.map_some, Option.map_none, Option.bind_some, if_true, List.length_map, List.length_range, e_setE0, e_setES, e_dOf, e_fzOf, e_fz, e_ow, e_gSl0, e_gSlS, e_gFz0, e_gFzS, e_kC, e_aNil, e_aCons, e_dLst, e_dTup, e_b2, e_pI, e_pAddI, e_pAddL, e_callD, e_bOf, e_bNot, e_bTru, e_truB, e_bAnd, e_bOr, e_vAnd, e_bYes, e_pLenL, e_pLenT, e_pAbs, e_pListOf, e_pIxL, e_pIxT, e_vIsi, e_iLst, e_iEnm, e_gNm, e_oNil, e_oSeq, e_oSet, e_oRet, e_oIf, e_oFor, e_oFrz, e_vLc, e_frz0w, e_frz0f, e_frzS, e_wipeN, e_wipeC, e_oRetV, e_oApp, e_oExt, e_iOwn, e_iOwnE, e_gTpl2, e_pEqI, e_pNeI, e_pNeB, e_pEqB, e_vChain, e_vNeg, e_vRev, e_oInt, e_dSl, e_vNot, e_vOr, e_vLc2, e_isiL, e_isiI, e_isiB, e_isBB, e_oPar, e_oAug, e_oRevS, e_vIf, e_gGh, e_vRepL, e_pInt1B, e_oAugIx, e_mUnp, e_mPar2, e_mPar3, e_xTup, e_xLst, e_allN, e_allC, e_mDrp2, e_gTpl3, e_oSwap, e_vCallT, e_xCallO, e_mIns, e_mSetIx, e_vLend, e_flatO, e_flatFB, e_flatFI, e_isB, e_isNotBB, e_oUnp, e_iZp, e_oSetIxM, e_oIns, e_oWhile, e_xPV, e_xP, e_xPB, e_xPI, e_xV, e_xFz, e_x2, e_x2N, e_xB, e_xGix, e_mNil, e_mSeq, e_mIf, e_mRet, e_mSet, e_mGset, e_mGaug, e_mLft, e_mFor, e_mApp, e_gaNil, e_gaV, e_gaG, e_xCallG, Nat.reduceLT, Nat.reduceLeDiff, c1, it, e']
theorem chains_spec (o : List (List Int)) (hl : o.length ≤ 14) (g : Fl.Flow) : m_chains_in [.list (rows o), flD g] = some (.ow (rows (chR (Fl.chains o.length g o.length)))) := by
  have c2 : (2 : Nat) ≤ cap := by rw [cap_eq]; decide
  have cn : o.length < cap := by rw [cap_eq]; omega
  have lr : (rows o).length = o.length := by unfold rows; rw [List.length_map]
  have so := source_s o
  have it : iR1 (dOf (callD pLen (aCons (gSl 0) aNil))) [some (.fz (.list (rows o))), some (.fz (flD g)), none] = some ((List.range o.length).map fun (k : Nat) => PyData.int (k : Int)) := iR1_nat (by generalize flD g = G; simp only [List.map_cons, List.map_nil, List.length_cons, List.length_nil, List.replicate, List.cons_append, List.nil_append, List.getElem?_cons_zero, List.getElem?_cons_succ, List.set_cons_succ, List.set_cons_zero, Nat.reduceSub, Nat.zero_add, Nat.reduceAdd, Option.map_some, Option.map_none, Option.bind_some, if_true, List.length_map, List.length_range, e_setE0, e_setES, e_dOf, e_fzOf, e_fz, e_ow, e_gSl0, e_gSlS, e_gFz0, e_gFzS, e_kC, e_aNil, e_aCons, e_dLst, e_dTup, e_b2, e_pI, e_pAddI, e_pAddL, e_callD, e_bOf, e_bNot, e_bTru, e_truB, e_bAnd, e_bOr, e_vAnd, e_bYes, e_pLenL, e_pLenT, e_pAbs, e_pListOf, e_pIxL, e_pIxT, e_vIsi, e_iLst, e_iEnm, e_gNm, e_oNil, e_oSeq, e_oSet, e_oRet, e_oIf, e_oFor, e_oFrz, e_vLc, e_frz0w, e_frz0f, e_frzS, e_wipeN, e_wipeC, e_oRetV, e_oApp, e_oExt, e_iOwn, e_iOwnE, e_gTpl2, e_pEqI, e_pNeI, e_pNeB, e_pEqB, e_vChain, e_vNeg, e_vRev, e_oInt, e_dSl, e_vNot, e_vOr, e_vLc2, e_isiL, e_isiI, e_isiB, e_isBB, e_oPar, e_oAug, e_oRevS, e_vIf, e_gGh, e_vRepL, e_pInt1B, e_oAugIx, e_mUnp, e_mPar2, e_mPar3, e_xTup, e_xLst, e_allN, e_allC, e_mDrp2, e_gTpl3, e_oSwap, e_vCallT, e_xCallO, e_mIns, e_mSetIx, e_vLend, e_flatO, e_flatFB, e_flatFI, e_isB, e_isNotBB, e_oUnp, e_iZp, e_oSetIxM, e_oIns, e_oWhile, e_xPV, e_xP, e_xPB, e_xPI, e_xV, e_xFz, e_x2, e_x2N, e_xB, e_xGix, e_mNil, e_mSeq, e_mIf, e_mRet, e_mSet, e_mGset, e_mGaug, e_mLft, e_mFor, e_mApp, e_gaNil, e_gaV, e_gaG, e_xCallG, Nat.reduceLT, Nat.reduceLeDiff, lr]) (by omega)
  have lc : lcD (gNm 2) (bOf (b2 pInD (dOf (dTup (aCons (dOf (callD m_source (aCons (gFz 0) aNil))) (aCons (dOf (callD m_foot (aCons (gFz 2) aNil))) aNil)))) (gSl 1))) (dOf (callD m_chain_from (aCons (gFz 0) (aCons (gFz 1) (aCons (gFz 2) aNil))))) [some (.fz (.list (rows o))), some (.fz (flD g)), none] ((List.range o.length).map fun (k : Nat) => PyData.int (k : Int)) = some (rows (chR (Fl.chains o.length g o.length))) := by
    unfold Fl.chains chR rows
    rw [List.map_map, List.map_map]
    refine lcD_filter (fun (k : Nat) => PyData.int (k : Int)) _ _ _ (fun t ht => ?_) fun t ht _ => ?_
    · have f2 := foot_s (t : Int)
      have pi := pIn_fl g (2 * o.length) (2 * t)
      rw [show ((2 * o.length : Nat) : Int) = 2 * (o.length : Int) by omega, show ((2 * t : Nat) : Int) = 2 * (t : Int) by omega] at pi
      change m_source [.list (o.map rowD)] = _ at so
      generalize m_source = q1 at so
      generalize m_foot = q2 at f2
      generalize flD g = G at pi
      simp only [List.map_cons, List.map_nil, List.length_cons, List.length_nil, List.replicate, List.cons_append, List.nil_append, List.getElem?_cons_zero, List.getElem?_cons_succ, List.set_cons_succ, List.set_cons_zero, Nat.reduceSub, Nat.zero_add, Nat.reduceAdd, Option.map_some, Option.map_none, Option.bind_some, if_true, List.length_map, List.length_range, e_setE0, e_setES, e_dOf, e_fzOf, e_fz, e_ow, e_gSl0, e_gSlS, e_gFz0, e_gFzS, e_kC, e_aNil, e_aCons, e_dLst, e_dTup, e_b2, e_pI, e_pAddI, e_pAddL, e_callD, e_bOf, e_bNot, e_bTru, e_truB, e_bAnd, e_bOr, e_vAnd, e_bYes, e_pLenL, e_pLenT, e_pAbs, e_pListOf, e_pIxL, e_pIxT, e_vIsi, e_iLst, e_iEnm, e_gNm, e_oNil, e_oSeq, e_oSet, e_oRet, e_oIf, e_oFor, e_oFrz, e_vLc, e_frz0w, e_frz0f, e_frzS, e_wipeN, e_wipeC, e_oRetV, e_oApp, e_oExt, e_iOwn, e_iOwnE, e_gTpl2, e_pEqI, e_pNeI, e_pNeB, e_pEqB, e_vChain, e_vNeg, e_vRev, e_oInt, e_dSl, e_vNot, e_vOr, e_vLc2, e_isiL, e_isiI, e_isiB, e_isBB, e_oPar, e_oAug, e_oRevS, e_vIf, e_gGh, e_vRepL, e_pInt1B, e_oAugIx, e_mUnp, e_mPar2, e_mPar3, e_xTup, e_xLst, e_allN, e_allC, e_mDrp2, e_gTpl3, e_oSwap, e_vCallT, e_xCallO, e_mIns, e_mSetIx, e_vLend, e_flatO, e_flatFB, e_flatFI, e_isB, e_isNotBB, e_oUnp, e_iZp, e_oSetIxM, e_oIns, e_oWhile, e_xPV, e_xP, e_xPB, e_xPI, e_xV, e_xFz, e_x2, e_x2N, e_xB, e_xGix, e_mNil, e_mSeq, e_mIf, e_mRet, e_mSet, e_mGset, e_mGaug, e_mLft, e_mFor, e_mApp, e_gaNil, e_gaV, e_gaG, e_xCallG, Nat.reduceLT, Nat.reduceLeDiff, so, f2, c2, pi]
    · have cs := chain_spec o hl g t (List.mem_range.mp ht)
      change m_chain_from [.list (o.map rowD), _, _] = _ at cs
      simp only [Function.comp]
      show _ = some (PyData.list (nums (chI (Fl.chainF g o.length t))))
      generalize nums (chI (Fl.chainF g o.length t)) = D at cs
      generalize m_chain_from = q1 at cs
      generalize flD g = G at cs
      simp only [List.map_cons, List.map_nil, List.length_cons, List.length_nil, List.replicate, List.cons_append, List.nil_append, List.getElem?_cons_zero, List.getElem?_cons_succ, List.set_cons_succ, List.set_cons_zero, Nat.reduceSub, Nat.zero_add, Nat.reduceAdd, Option.map_some, Option.map_none, Option.bind_some, if_true, List.length_map, List.length_range, e_setE0, e_setES, e_dOf, e_fzOf, e_fz, e_ow, e_gSl0, e_gSlS, e_gFz0, e_gFzS, e_kC, e_aNil, e_aCons, e_dLst, e_dTup, e_b2, e_pI, e_pAddI, e_pAddL, e_callD, e_bOf, e_bNot, e_bTru, e_truB, e_bAnd, e_bOr, e_vAnd, e_bYes, e_pLenL, e_pLenT, e_pAbs, e_pListOf, e_pIxL, e_pIxT, e_vIsi, e_iLst, e_iEnm, e_gNm, e_oNil, e_oSeq, e_oSet, e_oRet, e_oIf, e_oFor, e_oFrz, e_vLc, e_frz0w, e_frz0f, e_frzS, e_wipeN, e_wipeC, e_oRetV, e_oApp, e_oExt, e_iOwn, e_iOwnE, e_gTpl2, e_pEqI, e_pNeI, e_pNeB, e_pEqB, e_vChain, e_vNeg, e_vRev, e_oInt, e_dSl, e_vNot, e_vOr, e_vLc2, e_isiL, e_isiI, e_isiB, e_isBB, e_oPar, e_oAug, e_oRevS, e_vIf, e_gGh, e_vRepL, e_pInt1B, e_oAugIx, e_mUnp, e_mPar2, e_mPar3, e_xTup, e_xLst, e_allN, e_allC, e_mDrp2, e_gTpl3, e_oSwap, e_vCallT, e_xCallO, e_mIns, e_mSetIx, e_vLend, e_flatO, e_flatFB, e_flatFI, e_isB, e_isNotBB, e_oUnp, e_iZp, e_oSetIxM, e_oIns, e_oWhile, e_xPV, e_xP, e_xPB, e_xPI, e_xV, e_xFz, e_x2, e_x2N, e_xB, e_xGix, e_mNil, e_mSeq, e_mIf, e_mRet, e_mSet, e_mGset, e_mGaug, e_mLft, e_mFor, e_mApp, e_gaNil, e_gaV, e_gaG, e_xCallG, Nat.reduceLT, Nat.reduceLeDiff, cs]
  unfold m_chains_in mirror g_chains_in startE
  generalize rows (chR (Fl.chains o.length g o.length)) = R at lc
  generalize m_source = q1 at lc
  generalize m_foot = q2 at lc
  generalize m_chain_from = q3 at lc
  generalize flD g = G at it lc
  simp only [List.map_cons, List.map_nil, List.length_cons, List.length_nil, List.replicate, List.cons_append, List.nil_append, List.getElem?_cons_zero, List.getElem?_cons_succ, List.set_cons_succ, List.set_cons_zero, Nat.reduceSub, Nat.zero_add, Nat.reduceAdd, Option.map_some, Option.map_none, Option.bind_some, if_true, List.length_map, List.length_range, e_setE0, e_setES, e_dOf, e_fzOf, e_fz, e_ow, e_gSl0, e_gSlS, e_gFz0, e_gFzS, e_kC, e_aNil, e_aCons, e_dLst, e_dTup, e_b2, e_pI, e_pAddI, e_pAddL, e_callD, e_bOf, e_bNot, e_bTru, e_truB, e_bAnd, e_bOr, e_vAnd, e_bYes, e_pLenL, e_pLenT, e_pAbs, e_pListOf, e_pIxL, e_pIxT, e_vIsi, e_iLst, e_iEnm, e_gNm, e_oNil, e_oSeq, e_oSet, e_oRet, e_oIf, e_oFor, e_oFrz, e_vLc, e_frz0w, e_frz0f, e_frzS, e_wipeN, e_wipeC, e_oRetV, e_oApp, e_oExt, e_iOwn, e_iOwnE, e_gTpl2, e_pEqI, e_pNeI, e_pNeB, e_pEqB, e_vChain, e_vNeg, e_vRev, e_oInt, e_dSl, e_vNot, e_vOr, e_vLc2, e_isiL, e_isiI, e_isiB, e_isBB, e_oPar, e_oAug, e_oRevS, e_vIf, e_gGh, e_vRepL, e_pInt1B, e_oAugIx, e_mUnp, e_mPar2, e_mPar3, e_xTup, e_xLst, e_allN, e_allC, e_mDrp2, e_gTpl3, e_oSwap, e_vCallT, e_xCallO, e_mIns, e_mSetIx, e_vLend, e_flatO, e_flatFB, e_flatFI, e_isB, e_isNotBB, e_oUnp, e_iZp, e_oSetIxM, e_oIns, e_oWhile, e_xPV, e_xP, e_xPB, e_xPI, e_xV, e_xFz, e_x2, e_x2N, e_xB, e_xGix, e_mNil, e_mSeq, e_mIf, e_mRet, e_mSet, e_mGset, e_mGaug, e_mLft, e_mFor, e_mApp, e_gaNil, e_gaV, e_gaG, e_xCallG, Nat.reduceLT, Nat.reduceLeDiff, it, List.length_map, List.length_range, cn, lc]
theorem many_spec (R : List (List Int)) (hl : R.length < 1000) : m_many_held [.list (rows R)] = some (.fz (.int (((R.map List.length).sum : Nat) : Int))) := by
  have lr : (rows R).length = R.length := by unfold rows; rw [List.length_map]
  have cn : R.length < cap := by rw [cap_eq]; omega
  have lc : lcD (gNm 1) bYes (dOf (callD pLen (aCons (gSl 1) aNil))) [some (.fz (.list (rows R))), none] (rows R) = some (nums (R.map fun r => (r.length : Int))) := by
    conv => rhs; unfold nums; rw [List.map_map]
    refine lcD_map rowD _ R fun r _ => ?_
    unfold rowD
    generalize rows R = RR
    simp only [List.map_cons, List.map_nil, List.length_cons, List.length_nil, List.replicate, List.cons_append, List.nil_append, List.getElem?_cons_zero, List.getElem?_cons_succ, List.set_cons_succ, List.set_cons_zero, Nat.reduceSub, Nat.zero_add, Nat.reduceAdd, Option.map_some, Option.map_none, Option.bind_some, if_true, List.length_map, List.length_range, e_setE0, e_setES, e_dOf, e_fzOf, e_fz, e_ow, e_gSl0, e_gSlS, e_gFz0, e_gFzS, e_kC, e_aNil, e_aCons, e_dLst, e_dTup, e_b2, e_pI, e_pAddI, e_pAddL, e_callD, e_bOf, e_bNot, e_bTru, e_truB, e_bAnd, e_bOr, e_vAnd, e_bYes, e_pLenL, e_pLenT, e_pAbs, e_pListOf, e_pIxL, e_pIxT, e_vIsi, e_iLst, e_iEnm, e_gNm, e_oNil, e_oSeq, e_oSet, e_oRet, e_oIf, e_oFor, e_oFrz, e_vLc, e_frz0w, e_frz0f, e_frzS, e_wipeN, e_wipeC, e_oRetV, e_oApp, e_oExt, e_iOwn, e_iOwnE, e_gTpl2, e_pEqI, e_pNeI, e_pNeB, e_pEqB, e_vChain, e_vNeg, e_vRev, e_oInt, e_dSl, e_vNot, e_vOr, e_vLc2, e_isiL, e_isiI, e_isiB, e_isBB, e_oPar, e_oAug, e_oRevS, e_vIf, e_gGh, e_vRepL, e_pInt1B, e_oAugIx, e_mUnp, e_mPar2, e_mPar3, e_xTup, e_xLst, e_allN, e_allC, e_mDrp2, e_gTpl3, e_oSwap, e_vCallT, e_xCallO, e_mIns, e_mSetIx, e_vLend, e_flatO, e_flatFB, e_flatFI, e_isB, e_isNotBB, e_oUnp, e_iZp, e_oSetIxM, e_oIns, e_oWhile, e_xPV, e_xP, e_xPB, e_xPI, e_xV, e_xFz, e_x2, e_x2N, e_xB, e_xGix, e_mNil, e_mSeq, e_mIf, e_mRet, e_mSet, e_mGset, e_mGaug, e_mLft, e_mFor, e_mApp, e_gaNil, e_gaV, e_gaG, e_xCallG, Nat.reduceLT, Nat.reduceLeDiff]
    rfl
  have sm : (R.map fun r => (r.length : Int)).sum = (((R.map List.length).sum : Nat) : Int) := by
    clear lc lr cn hl
    induction R with
    | nil => rfl
    | cons r R ih => rw [List.map_cons, List.map_cons, List.sum_cons, List.sum_cons, ih]; omega
  unfold m_many_held mirror g_many_held startE
  simp only [List.map_cons, List.map_nil, List.length_cons, List.length_nil, List.replicate, List.cons_append, List.nil_append, List.getElem?_cons_zero, List.getElem?_cons_succ, List.set_cons_succ, List.set_cons_zero, Nat.reduceSub, Nat.zero_add, Nat.reduceAdd, Option.map_some, Option.map_none, Option.bind_some, if_true, List.length_map, List.length_range, e_setE0, e_setES, e_dOf, e_fzOf, e_fz, e_ow, e_gSl0, e_gSlS, e_gFz0, e_gFzS, e_kC, e_aNil, e_aCons, e_dLst, e_dTup, e_b2, e_pI, e_pAddI, e_pAddL, e_callD, e_bOf, e_bNot, e_bTru, e_truB, e_bAnd, e_bOr, e_vAnd, e_bYes, e_pLenL, e_pLenT, e_pAbs, e_pListOf, e_pIxL, e_pIxT, e_vIsi, e_iLst, e_iEnm, e_gNm, e_oNil, e_oSeq, e_oSet, e_oRet, e_oIf, e_oFor, e_oFrz, e_vLc, e_frz0w, e_frz0f, e_frzS, e_wipeN, e_wipeC, e_oRetV, e_oApp, e_oExt, e_iOwn, e_iOwnE, e_gTpl2, e_pEqI, e_pNeI, e_pNeB, e_pEqB, e_vChain, e_vNeg, e_vRev, e_oInt, e_dSl, e_vNot, e_vOr, e_vLc2, e_isiL, e_isiI, e_isiB, e_isBB, e_oPar, e_oAug, e_oRevS, e_vIf, e_gGh, e_vRepL, e_pInt1B, e_oAugIx, e_mUnp, e_mPar2, e_mPar3, e_xTup, e_xLst, e_allN, e_allC, e_mDrp2, e_gTpl3, e_oSwap, e_vCallT, e_xCallO, e_mIns, e_mSetIx, e_vLend, e_flatO, e_flatFB, e_flatFI, e_isB, e_isNotBB, e_oUnp, e_iZp, e_oSetIxM, e_oIns, e_oWhile, e_xPV, e_xP, e_xPB, e_xPI, e_xV, e_xFz, e_x2, e_x2N, e_xB, e_xGix, e_mNil, e_mSeq, e_mIf, e_mRet, e_mSet, e_mGset, e_mGaug, e_mLft, e_mFor, e_mApp, e_gaNil, e_gaV, e_gaG, e_xCallG, Nat.reduceLT, Nat.reduceLeDiff, lr, cn, lc, e_pSum, sm]
theorem chR_many (C : List (List Nat)) : ((chR C).map List.length).sum = Fl.many C := by
  unfold chR Fl.many chI
  rw [List.map_map]
  congr 1
  refine List.map_congr_left fun c _ => ?_
  simp
def tD (n : Nat) (p : Fl.Flow × Fl.Mk) : PyData := .tuple [.list (rows (chR (Fl.chains n p.1 n))), .list (mkD (2 * n + 2) p.2)]
theorem chains_len (n : Nat) (g : Fl.Flow) : (chR (Fl.chains n g n)).length ≤ n := by
  unfold chR Fl.chains
  rw [List.length_map, List.length_map]
  have := List.length_filter_le (fun t => decide ((2 * n, 2 * t) ∈ g)) (List.range n)
  rwa [List.length_range] at this
theorem held_spec {o : List (List Int)} (h : IsOrd o) (hl : o.length ≤ 14) {g : Fl.Flow} (F : Fl.FI (bl o) o.length g) : m_many_held [.list (rows (chR (Fl.chains o.length g o.length)))] = some (.fz (.int (Fl.val g : Int))) := by
  rw [many_spec _ (by have := chains_len o.length g; omega), chR_many, Fl.many_val F (low_of h)]
theorem flow_len {o : List (List Int)} (h : IsOrd o) (hl : o.length ≤ 14) {g : Fl.Flow} (F : Fl.FI (bl o) o.length g) : g.length ≤ 1000 := by
  have h1 := Fl.fi_len F
  have h2 : (Fl.arcs (bl o) o.length).length ≤ o.length * 17 := arcs_len h hl o.length (Nat.le_refl _)
  omega
theorem st_loop (o : List (List Int)) (h : IsOrd o) (hl : o.length ≤ 14) {g ge : Fl.Flow} {b : Int} {T : List (Fl.Flow × Fl.Mk)} (R : Fl.Run (bl o) o.length FUEL g b T ge) :
    ∀ (fuel : Nat) (B : List PyData) (y4 y5 : Option Sl), T.length < fuel → B.length + T.length < 1000 → ∃ y4' y5', whileD (bOf (b2 pLt (dOf (callD m_many_held (aCons (gFz 3) aNil))) (dOf (callD pLen (aCons (gSl 0) aNil))))) g_stages_b1 fuel [some (.fz (.list (rows o))), some (.ow B), some (.fz (flD g)), some (.fz (.list (rows (chR (Fl.chains o.length g o.length))))), y4, y5, none] = some (.nx [some (.fz (.list (rows o))), some (.ow (B ++ T.map (tD o.length))), some (.fz (flD ge)), some (.fz (.list (rows (chR (Fl.chains o.length ge o.length))))), y4', y5', none]) := by
  have lr : (rows o).length = o.length := by unfold rows; rw [List.length_map]
  have c2 : (2 : Nat) ≤ cap := by rw [cap_eq]; decide
  induction R with
  | @done g b F hv =>
    intro fuel B y4 y5 hf hB
    obtain ⟨k, rfl⟩ : ∃ k, fuel = k + 1 := ⟨fuel - 1, by rw [List.length_nil] at hf; omega⟩
    have hs := held_spec h hl F
    have lt : decide ((Fl.val g : Int) < (o.length : Int)) = false := decide_eq_false (by omega)
    refine ⟨y4, y5, ?_⟩
    rw [List.map_nil, List.append_nil]
    unfold whileD
    generalize rows (chR (Fl.chains o.length g o.length)) = CR at hs
    generalize m_many_held = q1 at hs
    generalize flD g = G
    generalize g_stages_b1 = b1
    simp only [List.map_cons, List.map_nil, List.length_cons, List.length_nil, List.replicate, List.cons_append, List.nil_append, List.getElem?_cons_zero, List.getElem?_cons_succ, List.set_cons_succ, List.set_cons_zero, Nat.reduceSub, Nat.zero_add, Nat.reduceAdd, Option.map_some, Option.map_none, Option.bind_some, if_true, List.length_map, List.length_range, e_setE0, e_setES, e_dOf, e_fzOf, e_fz, e_ow, e_gSl0, e_gSlS, e_gFz0, e_gFzS, e_kC, e_aNil, e_aCons, e_dLst, e_dTup, e_b2, e_pI, e_pAddI, e_pAddL, e_callD, e_bOf, e_bNot, e_bTru, e_truB, e_bAnd, e_bOr, e_vAnd, e_bYes, e_pLenL, e_pLenT, e_pAbs, e_pListOf, e_pIxL, e_pIxT, e_vIsi, e_iLst, e_iEnm, e_gNm, e_oNil, e_oSeq, e_oSet, e_oRet, e_oIf, e_oFor, e_oFrz, e_vLc, e_frz0w, e_frz0f, e_frzS, e_wipeN, e_wipeC, e_oRetV, e_oApp, e_oExt, e_iOwn, e_iOwnE, e_gTpl2, e_pEqI, e_pNeI, e_pNeB, e_pEqB, e_vChain, e_vNeg, e_vRev, e_oInt, e_dSl, e_vNot, e_vOr, e_vLc2, e_isiL, e_isiI, e_isiB, e_isBB, e_oPar, e_oAug, e_oRevS, e_vIf, e_gGh, e_vRepL, e_pInt1B, e_oAugIx, e_mUnp, e_mPar2, e_mPar3, e_xTup, e_xLst, e_allN, e_allC, e_mDrp2, e_gTpl3, e_oSwap, e_vCallT, e_xCallO, e_mIns, e_mSetIx, e_vLend, e_flatO, e_flatFB, e_flatFI, e_isB, e_isNotBB, e_oUnp, e_iZp, e_oSetIxM, e_oIns, e_oWhile, e_xPV, e_xP, e_xPB, e_xPI, e_xV, e_xFz, e_x2, e_x2N, e_xB, e_xGix, e_mNil, e_mSeq, e_mIf, e_mRet, e_mSet, e_mGset, e_mGaug, e_mLft, e_mFor, e_mApp, e_gaNil, e_gaV, e_gaG, e_xCallG, Nat.reduceLT, Nat.reduceLeDiff, hs, lr, lt]
  | @step g g' ge b mz s π τ T F hv hw W all hz e z1 zb vl R ih =>
    intro fuel B y4 y5 hf hB
    rw [List.length_cons] at hf hB
    obtain ⟨k, rfl⟩ : ∃ k, fuel = k + 1 := ⟨fuel - 1, by omega⟩
    have hs := held_spec h hl F
    have lt : decide ((Fl.val g : Int) < (o.length : Int)) = true := decide_eq_true (by omega)
    have ws := ways_spec o h hl g hw
    have hA : ∀ v u, v < 2 * o.length + 2 → s.A v = some u → u < 2 * o.length + 2 := fun v u hv hu => by
      have nS : v ≠ 2 * o.length := fun z => by rw [z, W.sa] at hu; cases hu
      cases q : s.M v with
      | none => exact absurd q (all v hv)
      | some m =>
        obtain ⟨u', w, k', e1, e2, _⟩ := W.ti v m nS q
        rw [hu] at e2; cases e2
        exact (opens_bd h _ e1).1
    have gs := grown_spec o hl g g' s.A hA F.nd (flow_len h hl F) e
    have cs := chains_spec o hl g'
    have cB : B.length < cap := by rw [cap_eq]; omega
    obtain ⟨z4, z5, ee⟩ := ih k (B ++ [tD o.length (g, s.M)]) (some (.fz (.list (mkD (2 * o.length + 2) s.M)))) (some (.fz (.list (ahD (2 * o.length + 2) s.A)))) (by omega) (by rw [List.length_append, List.length_singleton]; omega)
    refine ⟨z4, z5, ?_⟩
    have st : g_stages_b1 [some (.fz (.list (rows o))), some (.ow B), some (.fz (flD g)), some (.fz (.list (rows (chR (Fl.chains o.length g o.length))))), y4, y5, none] = some (.nx [some (.fz (.list (rows o))), some (.ow (B ++ [tD o.length (g, s.M)])), some (.fz (flD g')), some (.fz (.list (rows (chR (Fl.chains o.length g' o.length))))), some (.fz (.list (mkD (2 * o.length + 2) s.M))), some (.fz (.list (ahD (2 * o.length + 2) s.A))), none]) := by
      unfold g_stages_b1 tD
      generalize rows (chR (Fl.chains o.length g' o.length)) = C2 at cs
      generalize rows (chR (Fl.chains o.length g o.length)) = C1
      generalize mkD (2 * o.length + 2) s.M = D1 at ws
      generalize ahD (2 * o.length + 2) s.A = E1 at ws gs
      generalize flD g' = G2 at gs cs
      generalize flD g = G1 at ws gs
      generalize m_best_ways = q1 at ws
      generalize m_grown = q2 at gs
      generalize m_chains_in = q3 at cs
      generalize rows o = RO at ws gs cs
      simp only [List.map_cons, List.map_nil, List.length_cons, List.length_nil, List.replicate, List.cons_append, List.nil_append, List.getElem?_cons_zero, List.getElem?_cons_succ, List.set_cons_succ, List.set_cons_zero, Nat.reduceSub, Nat.zero_add, Nat.reduceAdd, Option.map_some, Option.map_none, Option.bind_some, if_true, List.length_map, List.length_range, e_setE0, e_setES, e_dOf, e_fzOf, e_fz, e_ow, e_gSl0, e_gSlS, e_gFz0, e_gFzS, e_kC, e_aNil, e_aCons, e_dLst, e_dTup, e_b2, e_pI, e_pAddI, e_pAddL, e_callD, e_bOf, e_bNot, e_bTru, e_truB, e_bAnd, e_bOr, e_vAnd, e_bYes, e_pLenL, e_pLenT, e_pAbs, e_pListOf, e_pIxL, e_pIxT, e_vIsi, e_iLst, e_iEnm, e_gNm, e_oNil, e_oSeq, e_oSet, e_oRet, e_oIf, e_oFor, e_oFrz, e_vLc, e_frz0w, e_frz0f, e_frzS, e_wipeN, e_wipeC, e_oRetV, e_oApp, e_oExt, e_iOwn, e_iOwnE, e_gTpl2, e_pEqI, e_pNeI, e_pNeB, e_pEqB, e_vChain, e_vNeg, e_vRev, e_oInt, e_dSl, e_vNot, e_vOr, e_vLc2, e_isiL, e_isiI, e_isiB, e_isBB, e_oPar, e_oAug, e_oRevS, e_vIf, e_gGh, e_vRepL, e_pInt1B, e_oAugIx, e_mUnp, e_mPar2, e_mPar3, e_xTup, e_xLst, e_allN, e_allC, e_mDrp2, e_gTpl3, e_oSwap, e_vCallT, e_xCallO, e_mIns, e_mSetIx, e_vLend, e_flatO, e_flatFB, e_flatFI, e_isB, e_isNotBB, e_oUnp, e_iZp, e_oSetIxM, e_oIns, e_oWhile, e_xPV, e_xP, e_xPB, e_xPI, e_xV, e_xFz, e_x2, e_x2N, e_xB, e_xGix, e_mNil, e_mSeq, e_mIf, e_mRet, e_mSet, e_mGset, e_mGaug, e_mLft, e_mFor, e_mApp, e_gaNil, e_gaV, e_gaG, e_xCallG, Nat.reduceLT, Nat.reduceLeDiff, ws, c2, cB, gs, cs]
    have cd : bOf (b2 pLt (dOf (callD m_many_held (aCons (gFz 3) aNil))) (dOf (callD pLen (aCons (gSl 0) aNil)))) [some (.fz (.list (rows o))), some (.ow B), some (.fz (flD g)), some (.fz (.list (rows (chR (Fl.chains o.length g o.length))))), y4, y5, none] = some true := by
      generalize rows (chR (Fl.chains o.length g o.length)) = CR at hs
      generalize m_many_held = q1 at hs
      generalize flD g = G
      simp only [List.map_cons, List.map_nil, List.length_cons, List.length_nil, List.replicate, List.cons_append, List.nil_append, List.getElem?_cons_zero, List.getElem?_cons_succ, List.set_cons_succ, List.set_cons_zero, Nat.reduceSub, Nat.zero_add, Nat.reduceAdd, Option.map_some, Option.map_none, Option.bind_some, if_true, List.length_map, List.length_range, e_setE0, e_setES, e_dOf, e_fzOf, e_fz, e_ow, e_gSl0, e_gSlS, e_gFz0, e_gFzS, e_kC, e_aNil, e_aCons, e_dLst, e_dTup, e_b2, e_pI, e_pAddI, e_pAddL, e_callD, e_bOf, e_bNot, e_bTru, e_truB, e_bAnd, e_bOr, e_vAnd, e_bYes, e_pLenL, e_pLenT, e_pAbs, e_pListOf, e_pIxL, e_pIxT, e_vIsi, e_iLst, e_iEnm, e_gNm, e_oNil, e_oSeq, e_oSet, e_oRet, e_oIf, e_oFor, e_oFrz, e_vLc, e_frz0w, e_frz0f, e_frzS, e_wipeN, e_wipeC, e_oRetV, e_oApp, e_oExt, e_iOwn, e_iOwnE, e_gTpl2, e_pEqI, e_pNeI, e_pNeB, e_pEqB, e_vChain, e_vNeg, e_vRev, e_oInt, e_dSl, e_vNot, e_vOr, e_vLc2, e_isiL, e_isiI, e_isiB, e_isBB, e_oPar, e_oAug, e_oRevS, e_vIf, e_gGh, e_vRepL, e_pInt1B, e_oAugIx, e_mUnp, e_mPar2, e_mPar3, e_xTup, e_xLst, e_allN, e_allC, e_mDrp2, e_gTpl3, e_oSwap, e_vCallT, e_xCallO, e_mIns, e_mSetIx, e_vLend, e_flatO, e_flatFB, e_flatFI, e_isB, e_isNotBB, e_oUnp, e_iZp, e_oSetIxM, e_oIns, e_oWhile, e_xPV, e_xP, e_xPB, e_xPI, e_xV, e_xFz, e_x2, e_x2N, e_xB, e_xGix, e_mNil, e_mSeq, e_mIf, e_mRet, e_mSet, e_mGset, e_mGaug, e_mLft, e_mFor, e_mApp, e_gaNil, e_gaV, e_gaG, e_xCallG, Nat.reduceLT, Nat.reduceLeDiff, hs, lr, lt]
    unfold whileD
    rw [cd]
    dsimp only
    rw [st]
    dsimp only
    rw [ee, List.map_cons, List.append_assoc]
    rfl
def toldD (n : Nat) (T : List (Fl.Flow × Fl.Mk)) (ge : Fl.Flow) : List PyData := T.map (tD n) ++ [tD n (ge, fun _ => some 0)]
theorem stages_spec (o : List (List Int)) (h : IsOrd o) (hl : o.length ≤ 14) {ge : Fl.Flow} {T : List (Fl.Flow × Fl.Mk)} (R : Fl.Run (bl o) o.length FUEL [] (o.length : Int) T ge) : m_stages [.list (rows o)] = some (.ow (toldD o.length T ge)) := by
  have F1 : FUEL = 1000 := by unfold FUEL; rw [big_eq]
  have c0 : (0 : Nat) ≤ cap := Nat.zero_le _
  have c2 : (2 : Nat) ≤ cap := by rw [cap_eq]; decide
  have cN : 2 * o.length + 2 < cap := by rw [cap_eq]; omega
  have rl := Fl.run_len R
  obtain ⟨z4, z5, e⟩ := st_loop o h hl R FUEL [] none none (by omega) (by rw [List.length_nil]; omega)
  have nil : Fl.chains o.length [] o.length = [] := by
    unfold Fl.chains
    rw [List.filter_eq_nil_iff.mpr (fun t _ => by simp)]
    rfl
  rw [nil, List.nil_append] at e
  have e' : whileD (bOf (b2 pLt (dOf (callD m_many_held (aCons (gFz 3) aNil))) (dOf (callD pLen (aCons (gSl 0) aNil))))) g_stages_b1 FUEL [some (.fz (.list (rows o))), some (.ow []), some (.fz (.dict (dicD []))), some (.fz (.list [])), none, none, none] = _ := e
  have ps := points_s o
  have ct : (T.map (tD o.length)).length < cap := by rw [List.length_map, cap_eq]; omega
  have it : ∀ y1 y2 y3 y4 y5, iR1 (dOf (callD m_many_points (aCons (gFz 0) aNil))) [some (.fz (.list (rows o))), y1, y2, y3, y4, y5, none] = some ((List.range (2 * o.length + 2)).map fun (k : Nat) => PyData.int (k : Int)) := fun y1 y2 y3 y4 y5 => iR1_nat (by
    generalize m_many_points = q1 at ps
    simp only [List.map_cons, List.map_nil, List.length_cons, List.length_nil, List.replicate, List.cons_append, List.nil_append, List.getElem?_cons_zero, List.getElem?_cons_succ, List.set_cons_succ, List.set_cons_zero, Nat.reduceSub, Nat.zero_add, Nat.reduceAdd, Option.map_some, Option.map_none, Option.bind_some, if_true, List.length_map, List.length_range, e_setE0, e_setES, e_dOf, e_fzOf, e_fz, e_ow, e_gSl0, e_gSlS, e_gFz0, e_gFzS, e_kC, e_aNil, e_aCons, e_dLst, e_dTup, e_b2, e_pI, e_pAddI, e_pAddL, e_callD, e_bOf, e_bNot, e_bTru, e_truB, e_bAnd, e_bOr, e_vAnd, e_bYes, e_pLenL, e_pLenT, e_pAbs, e_pListOf, e_pIxL, e_pIxT, e_vIsi, e_iLst, e_iEnm, e_gNm, e_oNil, e_oSeq, e_oSet, e_oRet, e_oIf, e_oFor, e_oFrz, e_vLc, e_frz0w, e_frz0f, e_frzS, e_wipeN, e_wipeC, e_oRetV, e_oApp, e_oExt, e_iOwn, e_iOwnE, e_gTpl2, e_pEqI, e_pNeI, e_pNeB, e_pEqB, e_vChain, e_vNeg, e_vRev, e_oInt, e_dSl, e_vNot, e_vOr, e_vLc2, e_isiL, e_isiI, e_isiB, e_isBB, e_oPar, e_oAug, e_oRevS, e_vIf, e_gGh, e_vRepL, e_pInt1B, e_oAugIx, e_mUnp, e_mPar2, e_mPar3, e_xTup, e_xLst, e_allN, e_allC, e_mDrp2, e_gTpl3, e_oSwap, e_vCallT, e_xCallO, e_mIns, e_mSetIx, e_vLend, e_flatO, e_flatFB, e_flatFI, e_isB, e_isNotBB, e_oUnp, e_iZp, e_oSetIxM, e_oIns, e_oWhile, e_xPV, e_xP, e_xPB, e_xPI, e_xV, e_xFz, e_x2, e_x2N, e_xB, e_xGix, e_mNil, e_mSeq, e_mIf, e_mRet, e_mSet, e_mGset, e_mGaug, e_mLft, e_mFor, e_mApp, e_gaNil, e_gaV, e_gaG, e_xCallG, Nat.reduceLT, Nat.reduceLeDiff, ps]
    rfl) (by omega)
  have lc : ∀ y1 y2 y3 y4 y5, lcD (gNm 6) bYes (kC (.int 0)) [some (.fz (.list (rows o))), y1, y2, y3, y4, y5, none] ((List.range (2 * o.length + 2)).map fun (k : Nat) => PyData.int (k : Int)) = some (mkD (2 * o.length + 2) fun _ => some 0) := fun y1 y2 y3 y4 y5 => by
    unfold mkD
    refine lcD_map _ _ _ fun k _ => ?_
    simp only [List.map_cons, List.map_nil, List.length_cons, List.length_nil, List.replicate, List.cons_append, List.nil_append, List.getElem?_cons_zero, List.getElem?_cons_succ, List.set_cons_succ, List.set_cons_zero, Nat.reduceSub, Nat.zero_add, Nat.reduceAdd, Option.map_some, Option.map_none, Option.bind_some, if_true, List.length_map, List.length_range, e_setE0, e_setES, e_dOf, e_fzOf, e_fz, e_ow, e_gSl0, e_gSlS, e_gFz0, e_gFzS, e_kC, e_aNil, e_aCons, e_dLst, e_dTup, e_b2, e_pI, e_pAddI, e_pAddL, e_callD, e_bOf, e_bNot, e_bTru, e_truB, e_bAnd, e_bOr, e_vAnd, e_bYes, e_pLenL, e_pLenT, e_pAbs, e_pListOf, e_pIxL, e_pIxT, e_vIsi, e_iLst, e_iEnm, e_gNm, e_oNil, e_oSeq, e_oSet, e_oRet, e_oIf, e_oFor, e_oFrz, e_vLc, e_frz0w, e_frz0f, e_frzS, e_wipeN, e_wipeC, e_oRetV, e_oApp, e_oExt, e_iOwn, e_iOwnE, e_gTpl2, e_pEqI, e_pNeI, e_pNeB, e_pEqB, e_vChain, e_vNeg, e_vRev, e_oInt, e_dSl, e_vNot, e_vOr, e_vLc2, e_isiL, e_isiI, e_isiB, e_isBB, e_oPar, e_oAug, e_oRevS, e_vIf, e_gGh, e_vRepL, e_pInt1B, e_oAugIx, e_mUnp, e_mPar2, e_mPar3, e_xTup, e_xLst, e_allN, e_allC, e_mDrp2, e_gTpl3, e_oSwap, e_vCallT, e_xCallO, e_mIns, e_mSetIx, e_vLend, e_flatO, e_flatFB, e_flatFI, e_isB, e_isNotBB, e_oUnp, e_iZp, e_oSetIxM, e_oIns, e_oWhile, e_xPV, e_xP, e_xPB, e_xPI, e_xV, e_xFz, e_x2, e_x2N, e_xB, e_xGix, e_mNil, e_mSeq, e_mIf, e_mRet, e_mSet, e_mGset, e_mGaug, e_mLft, e_mFor, e_mApp, e_gaNil, e_gaV, e_gaG, e_xCallG, Nat.reduceLT, Nat.reduceLeDiff]
    rfl
  have dz : vDic0 = fun _ => some (.dict (dicD [])) := rfl
  unfold m_stages mirror g_stages startE toldD
  have td : tD o.length (ge, fun _ => some 0) = .tuple [.list (rows (chR (Fl.chains o.length ge o.length))), .list (mkD (2 * o.length + 2) fun _ => some 0)] := rfl
  rw [td]
  generalize T.map (tD o.length) = TT at e' ct
  generalize rows (chR (Fl.chains o.length ge o.length)) = C1 at e'
  generalize (mkD (2 * o.length + 2) fun _ => some 0) = D1 at lc
  generalize flD ge = G1 at e'
  generalize PyData.dict (dicD []) = DD at e' dz
  generalize m_many_points = q1 at it
  generalize g_stages_b1 = b1 at e'
  generalize rows o = RO at e' it lc
  simp only [List.map_cons, List.map_nil, List.length_cons, List.length_nil, List.replicate, List.cons_append, List.nil_append, List.getElem?_cons_zero, List.getElem?_cons_succ, List.set_cons_succ, List.set_cons_zero, Nat.reduceSub, Nat.zero_add, Nat.reduceAdd, Option.map_some, Option.map_none, Option.bind_some, if_true, List.length_map, List.length_range, e_setE0, e_setES, e_dOf, e_fzOf, e_fz, e_ow, e_gSl0, e_gSlS, e_gFz0, e_gFzS, e_kC, e_aNil, e_aCons, e_dLst, e_dTup, e_b2, e_pI, e_pAddI, e_pAddL, e_callD, e_bOf, e_bNot, e_bTru, e_truB, e_bAnd, e_bOr, e_vAnd, e_bYes, e_pLenL, e_pLenT, e_pAbs, e_pListOf, e_pIxL, e_pIxT, e_vIsi, e_iLst, e_iEnm, e_gNm, e_oNil, e_oSeq, e_oSet, e_oRet, e_oIf, e_oFor, e_oFrz, e_vLc, e_frz0w, e_frz0f, e_frzS, e_wipeN, e_wipeC, e_oRetV, e_oApp, e_oExt, e_iOwn, e_iOwnE, e_gTpl2, e_pEqI, e_pNeI, e_pNeB, e_pEqB, e_vChain, e_vNeg, e_vRev, e_oInt, e_dSl, e_vNot, e_vOr, e_vLc2, e_isiL, e_isiI, e_isiB, e_isBB, e_oPar, e_oAug, e_oRevS, e_vIf, e_gGh, e_vRepL, e_pInt1B, e_oAugIx, e_mUnp, e_mPar2, e_mPar3, e_xTup, e_xLst, e_allN, e_allC, e_mDrp2, e_gTpl3, e_oSwap, e_vCallT, e_xCallO, e_mIns, e_mSetIx, e_vLend, e_flatO, e_flatFB, e_flatFI, e_isB, e_isNotBB, e_oUnp, e_iZp, e_oSetIxM, e_oIns, e_oWhile, e_xPV, e_xP, e_xPB, e_xPI, e_xV, e_xFz, e_x2, e_x2N, e_xB, e_xGix, e_mNil, e_mSeq, e_mIf, e_mRet, e_mSet, e_mGset, e_mGaug, e_mLft, e_mFor, e_mApp, e_gaNil, e_gaV, e_gaG, e_xCallG, Nat.reduceLT, Nat.reduceLeDiff, c0, dz, e', it, List.length_map, List.length_range, cN, lc, c2, ct]
def bandsI (T : List (Fl.Flow × Fl.Mk)) (ge : Fl.Flow) : List Int := Fl.difs (Fl.hld T ge)
theorem run_all_fi {bl : Nat → List Nat} {n K : Nat} {g ge : Fl.Flow} {b : Int} {T : List (Fl.Flow × Fl.Mk)} (R : Fl.Run bl n K g b T ge) : (∀ p ∈ T, Fl.FI bl n p.1) ∧ Fl.FI bl n ge := by
  induction R with
  | done F _ => exact ⟨fun p hp => (nomatch hp), F⟩
  | step F _ _ _ _ _ _ _ _ _ _ ih => exact ⟨fun p hp => by
      rcases List.mem_cons.mp hp with rfl | hp
      · exact F
      · exact ih.1 p hp, ih.2⟩
theorem bands_spec (o : List (List Int)) (h : IsOrd o) (hl : o.length ≤ 14) {ge : Fl.Flow} {T : List (Fl.Flow × Fl.Mk)} (R : Fl.Run (bl o) o.length FUEL [] (o.length : Int) T ge) : m_bands [.list (rows o)] = some (.ow (nums (bandsI T ge))) := by
  have ss := stages_spec o h hl R
  have rl := Fl.run_len R
  obtain ⟨fa, fe⟩ := run_all_fi R
  have hn : Fl.hld T ge = (T ++ [(ge, fun _ => some 0)]).map fun (p : Fl.Flow × Fl.Mk) => (Fl.val p.1 : Int) := by unfold Fl.hld; rw [List.map_append]; rfl
  have td : toldD o.length T ge = (T ++ [(ge, fun _ => some 0)]).map (tD o.length) := by unfold toldD; rw [List.map_append]; rfl
  have cT : (toldD o.length T ge).length < cap := by rw [td, List.length_map, List.length_append, List.length_singleton, cap_eq]; omega
  have lc : ∀ y4, lcD (gTpl 2 (gsCons (gNm 2) (gsCons (gNm 3) gsNil))) bYes (dOf (callD m_many_held (aCons (gFz 2) aNil))) [some (.fz (.list (rows o))), none, none, none, y4] (toldD o.length T ge) = some (nums (Fl.hld T ge)) := fun y4 => by
    rw [td, hn]
    conv => rhs; unfold nums; rw [List.map_map]
    refine lcD_map (tD o.length) _ _ fun p hp => ?_
    have F : Fl.FI (bl o) o.length p.1 := by
      rcases List.mem_append.mp hp with hp | hp
      · exact fa p hp
      · rw [List.mem_singleton.mp hp]; exact fe
    have hs := held_spec h hl F
    unfold tD
    simp only [Function.comp]
    generalize rows (chR (Fl.chains o.length p.1 o.length)) = C1 at hs
    generalize mkD (2 * o.length + 2) p.2 = D1
    generalize m_many_held = q1 at hs
    simp only [List.map_cons, List.map_nil, List.length_cons, List.length_nil, List.replicate, List.cons_append, List.nil_append, List.getElem?_cons_zero, List.getElem?_cons_succ, List.set_cons_succ, List.set_cons_zero, Nat.reduceSub, Nat.zero_add, Nat.reduceAdd, Option.map_some, Option.map_none, Option.bind_some, if_true, List.length_map, List.length_range, e_setE0, e_setES, e_dOf, e_fzOf, e_fz, e_ow, e_gSl0, e_gSlS, e_gFz0, e_gFzS, e_kC, e_aNil, e_aCons, e_dLst, e_dTup, e_b2, e_pI, e_pAddI, e_pAddL, e_callD, e_bOf, e_bNot, e_bTru, e_truB, e_bAnd, e_bOr, e_vAnd, e_bYes, e_pLenL, e_pLenT, e_pAbs, e_pListOf, e_pIxL, e_pIxT, e_vIsi, e_iLst, e_iEnm, e_gNm, e_oNil, e_oSeq, e_oSet, e_oRet, e_oIf, e_oFor, e_oFrz, e_vLc, e_frz0w, e_frz0f, e_frzS, e_wipeN, e_wipeC, e_oRetV, e_oApp, e_oExt, e_iOwn, e_iOwnE, e_gTpl2, e_pEqI, e_pNeI, e_pNeB, e_pEqB, e_vChain, e_vNeg, e_vRev, e_oInt, e_dSl, e_vNot, e_vOr, e_vLc2, e_isiL, e_isiI, e_isiB, e_isBB, e_oPar, e_oAug, e_oRevS, e_vIf, e_gGh, e_vRepL, e_pInt1B, e_oAugIx, e_mUnp, e_mPar2, e_mPar3, e_xTup, e_xLst, e_allN, e_allC, e_mDrp2, e_gTpl3, e_oSwap, e_vCallT, e_xCallO, e_mIns, e_mSetIx, e_vLend, e_flatO, e_flatFB, e_flatFI, e_isB, e_isNotBB, e_oUnp, e_iZp, e_oSetIxM, e_oIns, e_oWhile, e_xPV, e_xP, e_xPB, e_xPI, e_xV, e_xFz, e_x2, e_x2N, e_xB, e_xGix, e_mNil, e_mSeq, e_mIf, e_mRet, e_mSet, e_mGset, e_mGaug, e_mLft, e_mFor, e_mApp, e_gaNil, e_gaV, e_gaG, e_xCallG, Nat.reduceLT, Nat.reduceLeDiff, hs]
  have hL := Fl.hld_len T ge
  have ln : (nums (Fl.hld T ge)).length = T.length + 1 := by unfold nums; rw [List.length_map, hL]
  have it : iR2 (kC (.int 1)) (dOf (callD pLen (aCons (gSl 1) aNil))) [some (.fz (.list (rows o))), some (.fz (.list (nums (Fl.hld T ge)))), none, none, none] = some ((List.range T.length).map fun (k : Nat) => PyData.int ((1 + k : Nat) : Int)) := by
    rw [Tb.iR2_nat (a := 1) (b := T.length + 1) rfl (by generalize nums (Fl.hld T ge) = H at ln; simp only [List.map_cons, List.map_nil, List.length_cons, List.length_nil, List.replicate, List.cons_append, List.nil_append, List.getElem?_cons_zero, List.getElem?_cons_succ, List.set_cons_succ, List.set_cons_zero, Nat.reduceSub, Nat.zero_add, Nat.reduceAdd, Option.map_some, Option.map_none, Option.bind_some, if_true, List.length_map, List.length_range, e_setE0, e_setES, e_dOf, e_fzOf, e_fz, e_ow, e_gSl0, e_gSlS, e_gFz0, e_gFzS, e_kC, e_aNil, e_aCons, e_dLst, e_dTup, e_b2, e_pI, e_pAddI, e_pAddL, e_callD, e_bOf, e_bNot, e_bTru, e_truB, e_bAnd, e_bOr, e_vAnd, e_bYes, e_pLenL, e_pLenT, e_pAbs, e_pListOf, e_pIxL, e_pIxT, e_vIsi, e_iLst, e_iEnm, e_gNm, e_oNil, e_oSeq, e_oSet, e_oRet, e_oIf, e_oFor, e_oFrz, e_vLc, e_frz0w, e_frz0f, e_frzS, e_wipeN, e_wipeC, e_oRetV, e_oApp, e_oExt, e_iOwn, e_iOwnE, e_gTpl2, e_pEqI, e_pNeI, e_pNeB, e_pEqB, e_vChain, e_vNeg, e_vRev, e_oInt, e_dSl, e_vNot, e_vOr, e_vLc2, e_isiL, e_isiI, e_isiB, e_isBB, e_oPar, e_oAug, e_oRevS, e_vIf, e_gGh, e_vRepL, e_pInt1B, e_oAugIx, e_mUnp, e_mPar2, e_mPar3, e_xTup, e_xLst, e_allN, e_allC, e_mDrp2, e_gTpl3, e_oSwap, e_vCallT, e_xCallO, e_mIns, e_mSetIx, e_vLend, e_flatO, e_flatFB, e_flatFI, e_isB, e_isNotBB, e_oUnp, e_iZp, e_oSetIxM, e_oIns, e_oWhile, e_xPV, e_xP, e_xPB, e_xPI, e_xV, e_xFz, e_x2, e_x2N, e_xB, e_xGix, e_mNil, e_mSeq, e_mIf, e_mRet, e_mSet, e_mGset, e_mGaug, e_mLft, e_mFor, e_mApp, e_gaNil, e_gaV, e_gaG, e_xCallG, Nat.reduceLT, Nat.reduceLeDiff, ln]) (by omega) (by omega), Nat.add_sub_cancel]
  have cL : T.length < cap := by rw [cap_eq]; omega
  have lc2 : lcD (gNm 4) bYes (dOf (b2 pSub (dOf (b2 pIx (gSl 1) (gSl 4))) (dOf (b2 pIx (gSl 1) (dOf (b2 pSub (gSl 4) (kC (.int 1)))))))) [some (.fz (.list (rows o))), some (.fz (.list (nums (Fl.hld T ge)))), none, none, none] ((List.range T.length).map fun (k : Nat) => PyData.int ((1 + k : Nat) : Int)) = some (nums (bandsI T ge)) := by
    unfold bandsI
    rw [Fl.difs_eq, hL, Nat.add_sub_cancel]
    conv => rhs; unfold nums; rw [List.map_map]
    refine lcD_map (fun (k : Nat) => PyData.int ((1 + k : Nat) : Int)) _ _ fun k hk => ?_
    have hk := List.mem_range.mp hk
    simp only [Function.comp]
    have a1 : atI (nums (Fl.hld T ge)) ((1 + k : Nat) : Int) = some (.int ((Fl.hld T ge).getD (k + 1) 0)) := atI_ints (by omega) (by
      rw [Int.toNat_natCast, Nat.add_comm, List.getD_eq_getElem?_getD, List.getElem?_eq_getElem (by rw [hL]; omega)]; rfl)
    have a2 : atI (nums (Fl.hld T ge)) (((1 + k : Nat) : Int) - 1) = some (.int ((Fl.hld T ge).getD k 0)) := by
      rw [show ((1 + k : Nat) : Int) - 1 = (k : Int) by omega]
      exact atI_ints (by omega) (by
        rw [Int.toNat_natCast, List.getD_eq_getElem?_getD, List.getElem?_eq_getElem (by rw [hL]; omega)]; rfl)
    generalize nums (Fl.hld T ge) = H at a1 a2
    generalize (Fl.hld T ge).getD (k + 1) 0 = p at a1
    generalize (Fl.hld T ge).getD k 0 = q at a2
    generalize ((1 + k : Nat) : Int) = z at a1 a2
    simp only [List.map_cons, List.map_nil, List.length_cons, List.length_nil, List.replicate, List.cons_append, List.nil_append, List.getElem?_cons_zero, List.getElem?_cons_succ, List.set_cons_succ, List.set_cons_zero, Nat.reduceSub, Nat.zero_add, Nat.reduceAdd, Option.map_some, Option.map_none, Option.bind_some, if_true, List.length_map, List.length_range, e_setE0, e_setES, e_dOf, e_fzOf, e_fz, e_ow, e_gSl0, e_gSlS, e_gFz0, e_gFzS, e_kC, e_aNil, e_aCons, e_dLst, e_dTup, e_b2, e_pI, e_pAddI, e_pAddL, e_callD, e_bOf, e_bNot, e_bTru, e_truB, e_bAnd, e_bOr, e_vAnd, e_bYes, e_pLenL, e_pLenT, e_pAbs, e_pListOf, e_pIxL, e_pIxT, e_vIsi, e_iLst, e_iEnm, e_gNm, e_oNil, e_oSeq, e_oSet, e_oRet, e_oIf, e_oFor, e_oFrz, e_vLc, e_frz0w, e_frz0f, e_frzS, e_wipeN, e_wipeC, e_oRetV, e_oApp, e_oExt, e_iOwn, e_iOwnE, e_gTpl2, e_pEqI, e_pNeI, e_pNeB, e_pEqB, e_vChain, e_vNeg, e_vRev, e_oInt, e_dSl, e_vNot, e_vOr, e_vLc2, e_isiL, e_isiI, e_isiB, e_isBB, e_oPar, e_oAug, e_oRevS, e_vIf, e_gGh, e_vRepL, e_pInt1B, e_oAugIx, e_mUnp, e_mPar2, e_mPar3, e_xTup, e_xLst, e_allN, e_allC, e_mDrp2, e_gTpl3, e_oSwap, e_vCallT, e_xCallO, e_mIns, e_mSetIx, e_vLend, e_flatO, e_flatFB, e_flatFI, e_isB, e_isNotBB, e_oUnp, e_iZp, e_oSetIxM, e_oIns, e_oWhile, e_xPV, e_xP, e_xPB, e_xPI, e_xV, e_xFz, e_x2, e_x2N, e_xB, e_xGix, e_mNil, e_mSeq, e_mIf, e_mRet, e_mSet, e_mGset, e_mGaug, e_mLft, e_mFor, e_mApp, e_gaNil, e_gaV, e_gaG, e_xCallG, Nat.reduceLT, Nat.reduceLeDiff, a1, a2]
  unfold m_bands mirror g_bands startE
  generalize nums (Fl.hld T ge) = H at lc it lc2
  generalize nums (bandsI T ge) = BB at lc2
  generalize toldD o.length T ge = TD at ss cT lc
  generalize m_stages = q1 at ss
  generalize m_many_held = q2 at lc
  generalize rows o = RO at ss lc it lc2
  simp only [List.map_cons, List.map_nil, List.length_cons, List.length_nil, List.replicate, List.cons_append, List.nil_append, List.getElem?_cons_zero, List.getElem?_cons_succ, List.set_cons_succ, List.set_cons_zero, Nat.reduceSub, Nat.zero_add, Nat.reduceAdd, Option.map_some, Option.map_none, Option.bind_some, if_true, List.length_map, List.length_range, e_setE0, e_setES, e_dOf, e_fzOf, e_fz, e_ow, e_gSl0, e_gSlS, e_gFz0, e_gFzS, e_kC, e_aNil, e_aCons, e_dLst, e_dTup, e_b2, e_pI, e_pAddI, e_pAddL, e_callD, e_bOf, e_bNot, e_bTru, e_truB, e_bAnd, e_bOr, e_vAnd, e_bYes, e_pLenL, e_pLenT, e_pAbs, e_pListOf, e_pIxL, e_pIxT, e_vIsi, e_iLst, e_iEnm, e_gNm, e_oNil, e_oSeq, e_oSet, e_oRet, e_oIf, e_oFor, e_oFrz, e_vLc, e_frz0w, e_frz0f, e_frzS, e_wipeN, e_wipeC, e_oRetV, e_oApp, e_oExt, e_iOwn, e_iOwnE, e_gTpl2, e_pEqI, e_pNeI, e_pNeB, e_pEqB, e_vChain, e_vNeg, e_vRev, e_oInt, e_dSl, e_vNot, e_vOr, e_vLc2, e_isiL, e_isiI, e_isiB, e_isBB, e_oPar, e_oAug, e_oRevS, e_vIf, e_gGh, e_vRepL, e_pInt1B, e_oAugIx, e_mUnp, e_mPar2, e_mPar3, e_xTup, e_xLst, e_allN, e_allC, e_mDrp2, e_gTpl3, e_oSwap, e_vCallT, e_xCallO, e_mIns, e_mSetIx, e_vLend, e_flatO, e_flatFB, e_flatFI, e_isB, e_isNotBB, e_oUnp, e_iZp, e_oSetIxM, e_oIns, e_oWhile, e_xPV, e_xP, e_xPB, e_xPI, e_xV, e_xFz, e_x2, e_x2N, e_xB, e_xGix, e_mNil, e_mSeq, e_mIf, e_mRet, e_mSet, e_mGset, e_mGaug, e_mLft, e_mFor, e_mApp, e_gaNil, e_gaV, e_gaG, e_xCallG, Nat.reduceLT, Nat.reduceLeDiff, ss, cT, lc, it, List.length_map, List.length_range, cL, lc2]
theorem fuel_ok {n : Nat} (h : n ≤ 14) : (2 * n + 2) * (n + 1) + 2 ≤ FUEL := by
  have F1 : FUEL = 1000 := by unfold FUEL; rw [big_eq]
  have : (2 * n + 2) * (n + 1) ≤ 30 * 15 := Nat.mul_le_mul (by omega) (by omega)
  omega
theorem bands_ok (o : List (List Int)) (h : IsOrd o) (hl : o.length ≤ 14) : ∃ (T : List (Fl.Flow × Fl.Mk)) (ge : Fl.Flow), Fl.Run (bl o) o.length FUEL [] (o.length : Int) T ge ∧ m_bands [.list (rows o)] = some (.ow (nums (bandsI T ge))) ∧ IsShp (bandsI T ge) ∧ (bandsI T ge).sum = o.length ∧ (bandsI T ge).length ≤ 14 ∧ topI (bandsI T ge) ≤ 14 := by
  obtain ⟨T, ge, R⟩ := Fl.run0 (low_of h) (fuel_ok hl)
  obtain ⟨d1, d2, d3⟩ := Fl.run_difs R
  have rl := Fl.run_len R
  refine ⟨T, ge, R, bands_spec o h hl R, ⟨d2, fun x hx => (d1 x hx).1⟩, ?_, ?_, ?_⟩
  · show (Fl.difs (Fl.hld T ge)).sum = _
    rw [d3]
    show (o.length : Int) - (0 : Nat) = _
    omega
  · show (Fl.difs (Fl.hld T ge)).length ≤ 14
    rw [Fl.difs_len, Fl.hld_len]; omega
  · by_cases z : bandsI T ge = []
    · rw [z, topI_nil]; decide
    · have := (d1 _ (topI_mem z)).2
      show topI (Fl.difs (Fl.hld T ge)) ≤ 14
      omega
end
end Com
namespace Bd
open PySem L2 PySem.W
section
variable (lt : Nat → Nat → Bool) (n : Nat)
def GdK {α : Type} : KasT α → (α → Prop) → Prop
  | .ret a, P => P a
  | .ask i j k, P => i < n ∧ j < n ∧ GdK (k (lt i j)) P
structure STot : Prop where
  tr : ∀ i j k, i < n → j < n → k < n → lt i j = true → lt j k = true → lt i k = true
  as : ∀ i j, i < n → j < n → i ≠ j → lt i j = false → lt j i = true
def Prm (p : Array Nat) : Prop := p.toList.Perm (List.range n)
def Sp (p : Array Nat) (m : Nat) : Prop := ∀ i j, i < j → j < m → lt (p.getD i 0) (p.getD j 0) = true
def Dn (p : Array Nat) (m : Nat) : Prop := ∀ i j, i < j → j < m → lt (p.getD j 0) (p.getD i 0) = true
end
section
variable {lt : Nat → Nat → Bool} {n : Nat}
theorem GdK.mono {α : Type} {P Q : α → Prop} (h : ∀ a, P a → Q a) : ∀ {t : KasT α}, GdK lt n t P → GdK lt n t Q
  | .ret a, g => h a g
  | .ask i j k, g => ⟨g.1, g.2.1, GdK.mono h g.2.2⟩
theorem GdK.bind {α β : Type} {f : α → KasT β} {Q : β → Prop} : ∀ {t : KasT α}, GdK lt n t (fun a => GdK lt n (f a) Q) → GdK lt n (t.bind f) Q
  | .ret a, g => g
  | .ask i j k, g => ⟨g.1, g.2.1, GdK.bind g.2.2⟩
theorem Prm.size {p : Array Nat} (h : Prm n p) : p.size = n := by
  have := h.length_eq
  rw [Array.length_toList, List.length_range] at this
  exact this
theorem Prm.bd {p : Array Nat} (h : Prm n p) {k : Nat} (hk : k < n) : p.getD k 0 < n := by
  have hs : k < p.size := by rw [h.size]; exact hk
  have : p.getD k 0 ∈ p.toList := by
    rw [show p.getD k 0 = p[k] by simp [Array.getD, hs]]
    exact Array.mem_toList_iff.mpr (Array.getElem_mem hs)
  exact List.mem_range.mp (h.mem_iff.mp this)
theorem Prm.ne {p : Array Nat} (h : Prm n p) {k l : Nat} (hk : k < n) (hl : l < n) (e : k ≠ l) : p.getD k 0 ≠ p.getD l 0 := by
  have hs : k < p.size := by rw [h.size]; exact hk
  have hs2 : l < p.size := by rw [h.size]; exact hl
  have nd : p.toList.Nodup := h.nodup_iff.mpr List.nodup_range
  rw [show p.getD k 0 = p[k] by simp [Array.getD, hs], show p.getD l 0 = p[l] by simp [Array.getD, hs2]]
  intro z
  exact e ((List.getElem_inj (xs := p.toList) (i := k) (j := l) (h₀ := by rw [Array.length_toList]; exact hs) (h₁ := by rw [Array.length_toList]; exact hs2) nd).mp (by simpa using z))
theorem Sp.snoc (T : STot lt n) {p : Array Nat} (hp : Prm n p) {m : Nat} (h1 : 1 ≤ m) (hm : m < n) (h : Sp lt p m) (e : lt (p.getD m 0) (p.getD (m - 1) 0) = false) : Sp lt p (m + 1) := fun i j hij hj => by
  have hlast : lt (p.getD (m - 1) 0) (p.getD m 0) = true := T.as _ _ (hp.bd hm) (hp.bd (by omega)) (hp.ne hm (by omega) (by omega)) e
  by_cases q : j < m
  · exact h i j hij q
  · have ej : j = m := by omega
    subst ej
    by_cases q2 : i = j - 1
    · subst q2; exact hlast
    · exact T.tr _ _ _ (hp.bd (by omega)) (hp.bd (by omega)) (hp.bd hm) (h i (j - 1) (by omega) (by omega)) hlast
theorem Dn.snoc (T : STot lt n) {p : Array Nat} (hp : Prm n p) {m : Nat} (h1 : 1 ≤ m) (hm : m < n) (h : Dn lt p m) (e : lt (p.getD m 0) (p.getD (m - 1) 0) = true) : Dn lt p (m + 1) := fun i j hij hj => by
  by_cases q : j < m
  · exact h i j hij q
  · have ej : j = m := by omega
    subst ej
    by_cases q2 : i = j - 1
    · subst q2; exact e
    · exact T.tr _ _ _ (hp.bd hm) (hp.bd (by omega)) (hp.bd (by omega)) e (h i (j - 1) (by omega) (by omega))
end
end Bd
namespace Bd
open PySem L2 PySem.W
noncomputable section
def TupI (h : Heap) (v : Value) (q : Int × Int) : Prop := ∃ t o x y k, v = .ref t ∧ h.get? t = some o ∧ o.cls = .type "tuple" ∧ o.data = .seq #[.int q.1 x, .int q.2 y] k
section
variable {prog : Program} {w : World} {A : Around} {E : Value → Shared → Prop} {s : Shared} {vs : List Value} {qs : List (Int × Int)}
end
end
end Bd
namespace Bd
open PySem L2 PySem.W PyProof.Rows
noncomputable section
theorem TupI.kept {h h' : Heap} {v : Value} {q : Int × Int} (k : ∀ t o, o.cls = .type "tuple" → h.get? t = some o → h'.get? t = some o) (x : TupI h v q) : TupI h' v q := by
  obtain ⟨t, o, a, b, n, e, g, c, d⟩ := x
  exact ⟨t, o, a, b, n, e, k t o c g, c, d⟩
section
variable {prog : Program} {w : World} {A : Around} {E : Value → Shared → Prop} {s : Shared} {vs : List Value} {qs : List (Int × Int)}
end
end
end Bd
namespace Bd
open PySem L2 PySem.W PyProof.Rows
noncomputable section
def pick (us : List V) (p : List Nat) : List V := p.map fun i => us.getD i .non
section
variable {S : Sx}
end
end
end Bd
namespace Com
open PySem L2 Bd
noncomputable section
theorem lt_eq : ∀ {l m : List Int}, l.Pairwise (· < ·) → m.Pairwise (· < ·) → (∀ x, x ∈ l ↔ x ∈ m) → l = m := fun {l m} h1 h2 h => by
  have p : l.Perm m := by
    rw [List.perm_ext_iff_of_nodup (h1.imp fun h => by omega) (h2.imp fun h => by omega)]
    exact h
  exact sorted_eq p (h1.imp fun h => by omega) (h2.imp fun h => by omega)
end
end Com
namespace Com
open PySem L2 Bd
noncomputable section
theorem most {α : Type} (f : α → Nat) : ∀ {l : List α}, l ≠ [] → ∃ v ∈ l, ∀ u ∈ l, f u ≤ f v
  | [], h => absurd rfl h
  | [a], _ => ⟨a, List.mem_cons_self, fun u hu => by rw [List.mem_singleton.mp hu]; exact Nat.le_refl _⟩
  | a :: b :: l, _ => by
    obtain ⟨v, h1, h2⟩ := most f (l := b :: l) (by simp)
    by_cases c : f a ≤ f v
    · exact ⟨v, List.mem_cons_of_mem _ h1, fun u hu => by rcases List.mem_cons.mp hu with rfl | hu; exact c; exact h2 u hu⟩
    · exact ⟨a, List.mem_cons_self, fun u hu => by
        rcases List.mem_cons.mp hu with rfl | hu
        · exact Nat.le_refl _
        · have := h2 u hu; omega⟩
section
variable {V : List Int} {E : List (Int × Int)}
end
section
variable {o : List (List Int)}
def nb (o : List (List Int)) (l h : Int) : Bool := !((o.getD h.toNat []).map fun b => decide (l ∈ o.getD b.toNat [])).any id
end
end
end Com
namespace Com
open PySem L2 Bd
noncomputable section
def gG_law_row_b1 : GM :=
  (mSeq (mSet 6 (xFz (xV (x2 pAdd (xPV (dOf (b2 pAdd (gSl 6) (kC (.int 1))))) (xV (xCallG 2 mG_law_take (gaG (gaV (xPV (gFz 7)) gaNil))))))))
  (mSeq (mLft (oApp 8 (gFz 6)))
  mNil))
end
end Com
namespace Com
open PySem L2 Bd
noncomputable section
def g_law_order_b1 : En → Option Out :=
  (oSeq (oSet 7 (fzOf (dOf (b2 pAdd (gSl 7) (dOf (b2 pIx (gSl 2) (gSl 8)))))))
  oNil)
def gG_law_order_b2 : GM :=
  (mSeq (mSet 4 (xFz (xV (xCallG 2 mG_law_take (gaG (gaV (xPV (kC (.int 5))) gaNil))))))
  (mSeq (mLft (oSet 5 (fzOf (dOf (dLst aNil)))))
  (mSeq (mLft (oIf (bAnd (bOf (b2 pEq (gSl 4) (kC (.int 1)))) (bOf (b2 pGt (gSl 3) (kC (.int 0)))))
  (oSeq (oSet 5 (fzOf (dOf (dLst (aCons (dOf (b2 pSub (gSl 3) (kC (.int 1)))) aNil)))))
  oNil)
  oNil))
  (mSeq (mIf (xPB (bAnd (bOf (b2 pEq (gSl 4) (kC (.int 2)))) (bOf (b2 pGt (gSl 3) (kC (.int 0))))))
  (mSeq (mSet 5 (xFz (xV (xLst (gaV (xV (xCallG 2 mG_law_take (gaG (gaV (xPV (gFz 3)) gaNil)))) gaNil)))))
  mNil)
  mNil)
  (mSeq (mIf (xPB (bOf (b2 pGt (gSl 4) (kC (.int 2)))))
  (mSeq (mSet 6 (xFz (xV (xCallG 2 mG_law_take (gaG (gaV (xPV (dOf (b2 pShl (kC (.int 1)) (gSl 3)))) gaNil))))))
  (mSeq (mIf (xPB (bOf (b2 pEq (gSl 4) (kC (.int 3)))))
  (mSeq (mSet 6 (xFz (xV (x2 pBand (xPV (gFz 6)) (xV (xCallG 2 mG_law_take (gaG (gaV (xPV (dOf (b2 pShl (kC (.int 1)) (gSl 3)))) gaNil))))))))
  mNil)
  mNil)
  (mSeq (mLft (oSet 5 (fzOf (dOf (vLc (iR1 (gSl 3)) (gNm 8) (bOf (b2 pEq (dOf (b2 pBand (dOf (b2 pShr (gSl 6) (gSl 8))) (kC (.int 1)))) (kC (.int 1)))) (gFz 8) [8])))))
  mNil)))
  mNil)
  (mSeq (mLft (oSet 7 (fzOf (dOf (callD pListOf (aCons (gSl 5) aNil))))))
  (mSeq (mLft (oFor (iLst (gFz 5)) (gNm 8)
  g_law_order_b1))
  (mSeq (mLft (oApp 2 (dOf (callD pSortedSet (aCons (gSl 7) aNil)))))
  mNil))))))))
def gG_law_order : GM :=
  (mSeq (mLft (oSet 2 (dLst aNil)))
  (mSeq (mFor (xPI (iR1 (gSl 1))) (gNm 3)
  gG_law_order_b2)
  (mSeq (mLft (oRetV 2))
  mNil)))
def mG_law_order : List (Option PyData) → List PyData → Option (Sl × List PyData) := mirrorG 9 0 gG_law_order
def ordTail : GM := (mSeq (mLft (oSet 7 (fzOf (dOf (callD pListOf (aCons (gSl 5) aNil))))))
  (mSeq (mLft (oFor (iLst (gFz 5)) (gNm 8)
  g_law_order_b1))
  (mSeq (mLft (oApp 2 (dOf (callD pSortedSet (aCons (gSl 7) aNil)))))
  mNil)))
def bel (o : List (List Int)) (sm : List Int) : List Int := sm.foldl (fun b x => b ++ o.getD x.toNat []) sm
theorem bel_aux (o : List (List Int)) : ∀ (sm acc : List Int), sm.foldl (fun b x => b ++ o.getD x.toNat []) acc = acc ++ (sm.map fun x => o.getD x.toNat []).flatten
  | [], acc => by simp
  | x :: sm, acc => by rw [List.foldl_cons, bel_aux o sm]; simp
theorem mem_bel {o : List (List Int)} {sm : List Int} {x : Int} : x ∈ bel o sm ↔ x ∈ sm ∨ ∃ y ∈ sm, x ∈ o.getD y.toNat [] := by
  unfold bel
  rw [bel_aux, List.mem_append, List.mem_flatten]
  constructor
  · rintro (h | ⟨l, hl, hx⟩)
    · exact .inl h
    · obtain ⟨y, hy, rfl⟩ := List.mem_map.mp hl
      exact .inr ⟨y, hy, hx⟩
  · rintro (h | ⟨y, hy, hx⟩)
    · exact .inl h
    · exact .inr ⟨_, List.mem_map.mpr ⟨y, hy, rfl⟩, hx⟩
theorem getD_mem0 {o : List (List Int)} {x : Int} {k : Nat} (h : x ∈ o.getD k []) : ∃ r, o[k]? = some r ∧ x ∈ r := by
  rw [List.getD] at h
  cases q : o[k]? with
  | none => rw [q] at h; cases h
  | some r => rw [q] at h; exact ⟨r, rfl, h⟩
theorem bel_mem {o : List (List Int)} {sm : List Int} (ho : IsOrd o) (hs : ∀ x ∈ sm, 0 ≤ x ∧ x < (o.length : Int)) : ∀ x ∈ bel o sm, 0 ≤ x ∧ x < (o.length : Int) := fun x hx => by
  rcases mem_bel.mp hx with h | ⟨y, hy, h⟩
  · exact hs x h
  · obtain ⟨r, hr, hx⟩ := getD_mem0 h
    have := (ho _ r hr).2.1 x hx
    have := hs y hy
    omega
theorem bel_cl {o : List (List Int)} {sm : List Int} (ho : IsOrd o) (hs : ∀ x ∈ sm, 0 ≤ x ∧ x < (o.length : Int)) : ∀ x ∈ bel o sm, ∀ r', o[x.toNat]? = some r' → ∀ y ∈ r', y ∈ bel o sm := fun x hx r' hr' y hy => by
  rcases mem_bel.mp hx with h | ⟨z, hz, h⟩
  · exact mem_bel.mpr (.inr ⟨x, h, by rw [List.getD, hr']; exact hy⟩)
  · obtain ⟨r, hr, hx'⟩ := getD_mem0 h
    exact mem_bel.mpr (.inr ⟨z, hz, by rw [List.getD, hr]; exact (ho _ r hr).2.2 x hx' r' hr' y hy⟩)
theorem bel_snoc {o : List (List Int)} {sm : List Int} (ho : IsOrd o) (hs : ∀ x ∈ sm, 0 ≤ x ∧ x < (o.length : Int)) : IsOrd (o ++ [sortU (bel o sm)]) :=
  ho.snoc (sortU_lt _) (fun x hx => bel_mem ho hs x (mem_sortU.mp hx)) fun x hx r' hr' y hy => mem_sortU.mpr (bel_cl ho hs x (mem_sortU.mp hx) r' hr' y hy)
theorem getD_row_len {o : List (List Int)} (ho : IsOrd o) (h14 : o.length ≤ 14) (k : Nat) : (o.getD k []).length ≤ 14 := by
  rw [List.getD]
  cases q : o[k]? with
  | none => simp
  | some r =>
    have := ho.row_len q
    have := (List.getElem?_eq_some_iff.mp q).1
    simp; omega
theorem tail_spec (o : List (List Int)) (sm : List Int) (ho : IsOrd o) (h14 : o.length < 14) (hl : sm.length ≤ 14) (hs : ∀ x ∈ sm, 0 ≤ x ∧ x < (o.length : Int)) (n y3 y4 y6 y7 y8 : Option Sl) (l : List PyData) :
    ∃ z7 z8, ordTail [none, n, some (.ow (rows o)), y3, y4, some (.fz (.list (nums sm))), y6, y7, y8] l = some (.nx [none, n, some (.ow (rows (o ++ [sortU (bel o sm)]))), y3, y4, some (.fz (.list (nums sm))), y6, z7, z8] l) := by
  obtain ⟨z8, lp, hq⟩ := forD_fold (g := gNm 8) (body := g_law_order_b1) PyData.int (fun (b : List Int) (y : Option Sl) => [none, n, some (.ow (rows o)), y3, y4, some (.fz (.list (nums sm))), y6, some (.fz (.list (nums b))), y])
    (fun b x => b ++ o.getD x.toNat []) (fun b rest => b.length + 14 * rest.length ≤ 14 + 14 * 14 ∧ ∀ x ∈ rest, 0 ≤ x ∧ x < (o.length : Int))
    (fun b y x rest hp => by
      obtain ⟨hp1, hp2⟩ := hp
      have hx := hp2 x List.mem_cons_self
      rw [List.length_cons] at hp1
      have rl := getD_row_len ho (by omega) x.toNat
      refine ⟨⟨by rw [List.length_append]; omega, fun z hz => hp2 z (List.mem_cons_of_mem _ hz)⟩, some (.fz (.int x)), ?_⟩
      have a1 : atI (rows o) x = some (rowD (o.getD x.toNat [])) := atI_rows hx.1 (getD_at (by omega))
      have ap : nums b ++ nums (o.getD x.toNat []) = nums (b ++ o.getD x.toNat []) := List.map_append.symm
      have cl : b.length + (o.getD x.toNat []).length ≤ cap := by rw [cap_eq]; omega
      unfold g_law_order_b1
      unfold rowD at a1
      simp only [List.map_cons, List.map_nil, List.length_cons, List.length_nil, List.replicate, List.cons_append, List.nil_append, List.getElem?_cons_zero, List.getElem?_cons_succ, List.set_cons_succ, List.set_cons_zero, Nat.reduceSub, Nat.zero_add, Nat.reduceAdd, Option.map_some, Option.map_none, Option.bind_some, if_true, List.length_map, List.length_range, e_setE0, e_setES, e_dOf, e_fzOf, e_fz, e_ow, e_gSl0, e_gSlS, e_gFz0, e_gFzS, e_kC, e_aNil, e_aCons, e_dLst, e_dTup, e_b2, e_pI, e_pAddI, e_pAddL, e_callD, e_bOf, e_bNot, e_bTru, e_truB, e_bAnd, e_bOr, e_vAnd, e_bYes, e_pLenL, e_pLenT, e_pAbs, e_pListOf, e_pIxL, e_pIxT, e_vIsi, e_iLst, e_iEnm, e_gNm, e_oNil, e_oSeq, e_oSet, e_oRet, e_oIf, e_oFor, e_oFrz, e_vLc, e_frz0w, e_frz0f, e_frzS, e_wipeN, e_wipeC, e_oRetV, e_oApp, e_oExt, e_iOwn, e_iOwnE, e_gTpl2, e_pEqI, e_pNeI, e_pNeB, e_pEqB, e_vChain, e_vNeg, e_vRev, e_oInt, e_dSl, e_vNot, e_vOr, e_vLc2, e_isiL, e_isiI, e_isiB, e_isBB, e_oPar, e_oAug, e_oRevS, e_vIf, e_gGh, e_vRepL, e_pInt1B, e_oAugIx, e_mUnp, e_mPar2, e_mPar3, e_xTup, e_xLst, e_allN, e_allC, e_mDrp2, e_gTpl3, e_oSwap, e_vCallT, e_xCallO, e_mIns, e_mSetIx, e_vLend, e_flatO, e_flatFB, e_flatFI, e_isB, e_isNotBB, e_oUnp, e_iZp, e_oSetIxM, e_oIns, e_oWhile, e_xPV, e_xP, e_xPB, e_xPI, e_xV, e_xFz, e_x2, e_x2N, e_xB, e_xGix, e_mNil, e_mSeq, e_mIf, e_mRet, e_mSet, e_mGset, e_mGaug, e_mLft, e_mFor, e_mApp, e_gaNil, e_gaV, e_gaG, e_xCallG, Nat.reduceLT, Nat.reduceLeDiff, a1, ap, cl]) sm sm y8 ⟨by omega, hs⟩
  have hb := bel_mem ho hs
  have bl : (bel o sm).length < 4000 := by
    have := hq.1
    rw [List.length_nil] at this
    unfold bel; omega
  have ul : (uniq (bel o sm)).length < 64 := by
    have := nodup_bound o.length (uniq (bel o sm)) (uniq_nodup _) fun x hx => hb x (mem_uniq.mp hx)
    omega
  have ss := e_sortedSet bl ul
  have lp' : forD (gNm 8) g_law_order_b1 (nums sm) [none, n, some (.ow (rows o)), y3, y4, some (.fz (.list (nums sm))), y6, some (.fz (.list (nums sm))), y8] = some (.nx [none, n, some (.ow (rows o)), y3, y4, some (.fz (.list (nums sm))), y6, some (.fz (.list (nums (bel o sm)))), z8]) := lp
  have c1 : o.length < cap := by rw [cap_eq]; omega
  have ap : rows o ++ [PyData.list (nums (sortU (bel o sm)))] = rows (o ++ [sortU (bel o sm)]) := by unfold rows; rw [List.map_append]; rfl
  refine ⟨some (.fz (.list (nums (bel o sm)))), z8, ?_⟩
  unfold ordTail
  generalize bel o sm = B at *
  generalize g_law_order_b1 = bb at lp'
  simp only [List.map_cons, List.map_nil, List.length_cons, List.length_nil, List.replicate, List.cons_append, List.nil_append, List.getElem?_cons_zero, List.getElem?_cons_succ, List.set_cons_succ, List.set_cons_zero, Nat.reduceSub, Nat.zero_add, Nat.reduceAdd, Option.map_some, Option.map_none, Option.bind_some, if_true, List.length_map, List.length_range, e_setE0, e_setES, e_dOf, e_fzOf, e_fz, e_ow, e_gSl0, e_gSlS, e_gFz0, e_gFzS, e_kC, e_aNil, e_aCons, e_dLst, e_dTup, e_b2, e_pI, e_pAddI, e_pAddL, e_callD, e_bOf, e_bNot, e_bTru, e_truB, e_bAnd, e_bOr, e_vAnd, e_bYes, e_pLenL, e_pLenT, e_pAbs, e_pListOf, e_pIxL, e_pIxT, e_vIsi, e_iLst, e_iEnm, e_gNm, e_oNil, e_oSeq, e_oSet, e_oRet, e_oIf, e_oFor, e_oFrz, e_vLc, e_frz0w, e_frz0f, e_frzS, e_wipeN, e_wipeC, e_oRetV, e_oApp, e_oExt, e_iOwn, e_iOwnE, e_gTpl2, e_pEqI, e_pNeI, e_pNeB, e_pEqB, e_vChain, e_vNeg, e_vRev, e_oInt, e_dSl, e_vNot, e_vOr, e_vLc2, e_isiL, e_isiI, e_isiB, e_isBB, e_oPar, e_oAug, e_oRevS, e_vIf, e_gGh, e_vRepL, e_pInt1B, e_oAugIx, e_mUnp, e_mPar2, e_mPar3, e_xTup, e_xLst, e_allN, e_allC, e_mDrp2, e_gTpl3, e_oSwap, e_vCallT, e_xCallO, e_mIns, e_mSetIx, e_vLend, e_flatO, e_flatFB, e_flatFI, e_isB, e_isNotBB, e_oUnp, e_iZp, e_oSetIxM, e_oIns, e_oWhile, e_xPV, e_xP, e_xPB, e_xPI, e_xV, e_xFz, e_x2, e_x2N, e_xB, e_xGix, e_mNil, e_mSeq, e_mIf, e_mRet, e_mSet, e_mGset, e_mGaug, e_mLft, e_mFor, e_mApp, e_gaNil, e_gaV, e_gaG, e_xCallG, Nat.reduceLT, Nat.reduceLeDiff, lp', ss, c1, ap]
theorem shl_ok (k : Nat) (h : k ≤ 14) : powB 1 (k : Int) = true := by
  unfold powB
  rw [big_eq, big_eq]
  simp; omega
theorem shl_val (k : Nat) (h : k ≤ 14) : (0 : Int) < 1 * 2 ^ ((k : Int).toNat) ∧ 1 * 2 ^ ((k : Int).toNat) < (18446744073709551616 : Int) := by
  rw [Int.toNat_natCast, Int.one_mul]
  have h1 : 0 < (2 : Nat) ^ k := Nat.pow_pos (by decide)
  have h2 : (2 : Nat) ^ k ≤ 2 ^ 14 := Nat.pow_le_pow_right (by decide) h
  have e : (2 : Int) ^ k = ((2 ^ k : Nat) : Int) := by norm_cast
  rw [e]
  constructor <;> omega
theorem order_specS (a b : Int) (n : Nat) (hn : n ≤ 14) : ∃ (o : List (List Int)) (a' b' : Int), mG_law_order [none, some (.int (n : Int))] [.int a, .int b] = some (.ow (rows o), [.int a', .int b']) ∧ o.length = n ∧ IsOrd o := by
  have c0 : (0 : Nat) ≤ cap := Nat.zero_le _
  have c1 : (1 : Nat) ≤ cap := by rw [cap_eq]; decide
  have it : iR1 (gSl 1) [none, some (.fz (.int (n : Int))), some (.ow []), none, none, none, none, none, none] = some ((List.range n).map fun (k : Nat) => PyData.int (k : Int)) := iR1_nat (by simp only [List.map_cons, List.map_nil, List.length_cons, List.length_nil, List.replicate, List.cons_append, List.nil_append, List.getElem?_cons_zero, List.getElem?_cons_succ, List.set_cons_succ, List.set_cons_zero, Nat.reduceSub, Nat.zero_add, Nat.reduceAdd, Option.map_some, Option.map_none, Option.bind_some, if_true, List.length_map, List.length_range, e_setE0, e_setES, e_dOf, e_fzOf, e_fz, e_ow, e_gSl0, e_gSlS, e_gFz0, e_gFzS, e_kC, e_aNil, e_aCons, e_dLst, e_dTup, e_b2, e_pI, e_pAddI, e_pAddL, e_callD, e_bOf, e_bNot, e_bTru, e_truB, e_bAnd, e_bOr, e_vAnd, e_bYes, e_pLenL, e_pLenT, e_pAbs, e_pListOf, e_pIxL, e_pIxT, e_vIsi, e_iLst, e_iEnm, e_gNm, e_oNil, e_oSeq, e_oSet, e_oRet, e_oIf, e_oFor, e_oFrz, e_vLc, e_frz0w, e_frz0f, e_frzS, e_wipeN, e_wipeC, e_oRetV, e_oApp, e_oExt, e_iOwn, e_iOwnE, e_gTpl2, e_pEqI, e_pNeI, e_pNeB, e_pEqB, e_vChain, e_vNeg, e_vRev, e_oInt, e_dSl, e_vNot, e_vOr, e_vLc2, e_isiL, e_isiI, e_isiB, e_isBB, e_oPar, e_oAug, e_oRevS, e_vIf, e_gGh, e_vRepL, e_pInt1B, e_oAugIx, e_mUnp, e_mPar2, e_mPar3, e_xTup, e_xLst, e_allN, e_allC, e_mDrp2, e_gTpl3, e_oSwap, e_vCallT, e_xCallO, e_mIns, e_mSetIx, e_vLend, e_flatO, e_flatFB, e_flatFI, e_isB, e_isNotBB, e_oUnp, e_iZp, e_oSetIxM, e_oIns, e_oWhile, e_xPV, e_xP, e_xPB, e_xPI, e_xV, e_xFz, e_x2, e_x2N, e_xB, e_xGix, e_mNil, e_mSeq, e_mIf, e_mRet, e_mSet, e_mGset, e_mGaug, e_mLft, e_mFor, e_mApp, e_gaNil, e_gaV, e_gaG, e_xCallG, Nat.reduceLT, Nat.reduceLeDiff]) (by omega)
  obtain ⟨Γ', l', lp, o, a', b', y3, y4, y5, y6, y7, y8, rfl, rfl, ol, oo, _⟩ := forM_inv (t := gNm 3) (body := gG_law_order_b2) (fun (k : Nat) => PyData.int (k : Int))
    (fun rest Γ l => ∃ (o : List (List Int)) (a' b' : Int) (y3 y4 y5 y6 y7 y8 : Option Sl), Γ = [none, some (.fz (.int (n : Int))), some (.ow (rows o)), y3, y4, y5, y6, y7, y8] ∧ l = [.int a', .int b'] ∧ o.length + rest.length = n ∧ IsOrd o ∧ rest = (List.range n).drop o.length)
    (fun k rest Γ l hp => by
      obtain ⟨o, a', b', y3, y4, y5, y6, y7, y8, rfl, rfl, ol, oo, hr⟩ := hp
      rw [List.length_cons] at ol
      have hk : k = o.length := by
        have h0 : (List.range n)[o.length]? = some k := by
          have : ((List.range n).drop o.length)[0]? = some k := by rw [← hr]; rfl
          rwa [List.getElem?_drop] at this
        rw [List.getElem?_range (by omega)] at h0
        cases h0; rfl
      have hrest : rest = (List.range n).drop (o.length + 1) := by
        have := congrArg List.tail hr
        rw [List.tail_cons, List.tail_drop] at this
        exact this
      subst hk
      have pick : ∃ (sm : List Int) (a2 b2 : Int) (z4 z6 : Option Sl), sm.length ≤ 14 ∧ (∀ x ∈ sm, 0 ≤ x ∧ x < (o.length : Int)) ∧ gG_law_order_b2 [none, some (.fz (.int (n : Int))), some (.ow (rows o)), some (.fz (.int (o.length : Int))), y4, y5, y6, y7, y8] [.int a', .int b'] = ordTail [none, some (.fz (.int (n : Int))), some (.ow (rows o)), some (.fz (.int (o.length : Int))), z4, some (.fz (.list (nums sm))), z6, y7, y8] [.int a2, .int b2] := by
        obtain ⟨kd, a1, b1, e1, k0, k1⟩ := take_at a' b' 5 (by decide) (by decide)
        have c14 : o.length < cap := by rw [cap_eq]; omega
        have pw := shl_ok o.length (by omega)
        obtain ⟨s0, s1⟩ := shl_val o.length (by omega)
        have itr : ∀ m : Int, iR1 (gSl 3) [none, some (.fz (.int (n : Int))), some (.ow (rows o)), some (.fz (.int (o.length : Int))), some (.fz (.int kd)), some (.fz (.list [])), some (.fz (.int m)), y7, y8] = some ((List.range o.length).map fun (k : Nat) => PyData.int (k : Int)) := fun m => iR1_nat (by simp only [List.map_cons, List.map_nil, List.length_cons, List.length_nil, List.replicate, List.cons_append, List.nil_append, List.getElem?_cons_zero, List.getElem?_cons_succ, List.set_cons_succ, List.set_cons_zero, Nat.reduceSub, Nat.zero_add, Nat.reduceAdd, Option.map_some, Option.map_none, Option.bind_some, if_true, List.length_map, List.length_range, e_setE0, e_setES, e_dOf, e_fzOf, e_fz, e_ow, e_gSl0, e_gSlS, e_gFz0, e_gFzS, e_kC, e_aNil, e_aCons, e_dLst, e_dTup, e_b2, e_pI, e_pAddI, e_pAddL, e_callD, e_bOf, e_bNot, e_bTru, e_truB, e_bAnd, e_bOr, e_vAnd, e_bYes, e_pLenL, e_pLenT, e_pAbs, e_pListOf, e_pIxL, e_pIxT, e_vIsi, e_iLst, e_iEnm, e_gNm, e_oNil, e_oSeq, e_oSet, e_oRet, e_oIf, e_oFor, e_oFrz, e_vLc, e_frz0w, e_frz0f, e_frzS, e_wipeN, e_wipeC, e_oRetV, e_oApp, e_oExt, e_iOwn, e_iOwnE, e_gTpl2, e_pEqI, e_pNeI, e_pNeB, e_pEqB, e_vChain, e_vNeg, e_vRev, e_oInt, e_dSl, e_vNot, e_vOr, e_vLc2, e_isiL, e_isiI, e_isiB, e_isBB, e_oPar, e_oAug, e_oRevS, e_vIf, e_gGh, e_vRepL, e_pInt1B, e_oAugIx, e_mUnp, e_mPar2, e_mPar3, e_xTup, e_xLst, e_allN, e_allC, e_mDrp2, e_gTpl3, e_oSwap, e_vCallT, e_xCallO, e_mIns, e_mSetIx, e_vLend, e_flatO, e_flatFB, e_flatFI, e_isB, e_isNotBB, e_oUnp, e_iZp, e_oSetIxM, e_oIns, e_oWhile, e_xPV, e_xP, e_xPB, e_xPI, e_xV, e_xFz, e_x2, e_x2N, e_xB, e_xGix, e_mNil, e_mSeq, e_mIf, e_mRet, e_mSet, e_mGset, e_mGaug, e_mLft, e_mFor, e_mApp, e_gaNil, e_gaV, e_gaG, e_xCallG, Nat.reduceLT, Nat.reduceLeDiff]) (by omega)
        have lc : ∀ m : Int, lcD (gNm 8) (bOf (b2 pEq (dOf (b2 pBand (dOf (b2 pShr (gSl 6) (gSl 8))) (kC (.int 1)))) (kC (.int 1)))) (gFz 8) [none, some (.fz (.int (n : Int))), some (.ow (rows o)), some (.fz (.int (o.length : Int))), some (.fz (.int kd)), some (.fz (.list [])), some (.fz (.int m)), y7, none] ((List.range o.length).map fun (k : Nat) => PyData.int (k : Int)) = some (nums (((List.range o.length).filter fun (k : Nat) => (Builtin.bitAnd (m / 2 ^ ((k : Int).toNat)) 1 == 1)).map fun (k : Nat) => (k : Int))) := fun m => by
          unfold nums
          rw [List.map_map]
          refine lcD_filter _ _ _ _ (fun k _ => ?_) (fun k _ _ => by simp only [List.map_cons, List.map_nil, List.length_cons, List.length_nil, List.replicate, List.cons_append, List.nil_append, List.getElem?_cons_zero, List.getElem?_cons_succ, List.set_cons_succ, List.set_cons_zero, Nat.reduceSub, Nat.zero_add, Nat.reduceAdd, Option.map_some, Option.map_none, Option.bind_some, if_true, List.length_map, List.length_range, e_setE0, e_setES, e_dOf, e_fzOf, e_fz, e_ow, e_gSl0, e_gSlS, e_gFz0, e_gFzS, e_kC, e_aNil, e_aCons, e_dLst, e_dTup, e_b2, e_pI, e_pAddI, e_pAddL, e_callD, e_bOf, e_bNot, e_bTru, e_truB, e_bAnd, e_bOr, e_vAnd, e_bYes, e_pLenL, e_pLenT, e_pAbs, e_pListOf, e_pIxL, e_pIxT, e_vIsi, e_iLst, e_iEnm, e_gNm, e_oNil, e_oSeq, e_oSet, e_oRet, e_oIf, e_oFor, e_oFrz, e_vLc, e_frz0w, e_frz0f, e_frzS, e_wipeN, e_wipeC, e_oRetV, e_oApp, e_oExt, e_iOwn, e_iOwnE, e_gTpl2, e_pEqI, e_pNeI, e_pNeB, e_pEqB, e_vChain, e_vNeg, e_vRev, e_oInt, e_dSl, e_vNot, e_vOr, e_vLc2, e_isiL, e_isiI, e_isiB, e_isBB, e_oPar, e_oAug, e_oRevS, e_vIf, e_gGh, e_vRepL, e_pInt1B, e_oAugIx, e_mUnp, e_mPar2, e_mPar3, e_xTup, e_xLst, e_allN, e_allC, e_mDrp2, e_gTpl3, e_oSwap, e_vCallT, e_xCallO, e_mIns, e_mSetIx, e_vLend, e_flatO, e_flatFB, e_flatFI, e_isB, e_isNotBB, e_oUnp, e_iZp, e_oSetIxM, e_oIns, e_oWhile, e_xPV, e_xP, e_xPB, e_xPI, e_xV, e_xFz, e_x2, e_x2N, e_xB, e_xGix, e_mNil, e_mSeq, e_mIf, e_mRet, e_mSet, e_mGset, e_mGaug, e_mLft, e_mFor, e_mApp, e_gaNil, e_gaV, e_gaG, e_xCallG, Nat.reduceLT, Nat.reduceLeDiff, Function.comp])
          have sb : shrB m (k : Int) = true := by unfold shrB; simp
          simp only [List.map_cons, List.map_nil, List.length_cons, List.length_nil, List.replicate, List.cons_append, List.nil_append, List.getElem?_cons_zero, List.getElem?_cons_succ, List.set_cons_succ, List.set_cons_zero, Nat.reduceSub, Nat.zero_add, Nat.reduceAdd, Option.map_some, Option.map_none, Option.bind_some, if_true, List.length_map, List.length_range, e_setE0, e_setES, e_dOf, e_fzOf, e_fz, e_ow, e_gSl0, e_gSlS, e_gFz0, e_gFzS, e_kC, e_aNil, e_aCons, e_dLst, e_dTup, e_b2, e_pI, e_pAddI, e_pAddL, e_callD, e_bOf, e_bNot, e_bTru, e_truB, e_bAnd, e_bOr, e_vAnd, e_bYes, e_pLenL, e_pLenT, e_pAbs, e_pListOf, e_pIxL, e_pIxT, e_vIsi, e_iLst, e_iEnm, e_gNm, e_oNil, e_oSeq, e_oSet, e_oRet, e_oIf, e_oFor, e_oFrz, e_vLc, e_frz0w, e_frz0f, e_frzS, e_wipeN, e_wipeC, e_oRetV, e_oApp, e_oExt, e_iOwn, e_iOwnE, e_gTpl2, e_pEqI, e_pNeI, e_pNeB, e_pEqB, e_vChain, e_vNeg, e_vRev, e_oInt, e_dSl, e_vNot, e_vOr, e_vLc2, e_isiL, e_isiI, e_isiB, e_isBB, e_oPar, e_oAug, e_oRevS, e_vIf, e_gGh, e_vRepL, e_pInt1B, e_oAugIx, e_mUnp, e_mPar2, e_mPar3, e_xTup, e_xLst, e_allN, e_allC, e_mDrp2, e_gTpl3, e_oSwap, e_vCallT, e_xCallO, e_mIns, e_mSetIx, e_vLend, e_flatO, e_flatFB, e_flatFI, e_isB, e_isNotBB, e_oUnp, e_iZp, e_oSetIxM, e_oIns, e_oWhile, e_xPV, e_xP, e_xPB, e_xPI, e_xV, e_xFz, e_x2, e_x2N, e_xB, e_xGix, e_mNil, e_mSeq, e_mIf, e_mRet, e_mSet, e_mGset, e_mGaug, e_mLft, e_mFor, e_mApp, e_gaNil, e_gaV, e_gaG, e_xCallG, Nat.reduceLT, Nat.reduceLeDiff, sb]
        have fl : ∀ p : Nat → Bool, (((List.range o.length).filter p).map fun (k : Nat) => (k : Int)).length ≤ 14 ∧ ∀ x ∈ ((List.range o.length).filter p).map fun (k : Nat) => (k : Int), 0 ≤ x ∧ x < (o.length : Int) := fun p => by
          constructor
          · rw [List.length_map]
            have := List.length_filter_le p (List.range o.length)
            rw [List.length_range] at this
            omega
          · intro x hx
            obtain ⟨k, hk, rfl⟩ := List.mem_map.mp hx
            have := List.mem_range.mp (List.mem_filter.mp hk).1
            omega
        have hz : kd = 0 ∨ kd = 1 ∨ kd = 2 ∨ kd = 3 ∨ kd = 4 := by omega
        have nn : PyData.list [] = PyData.list (nums []) := rfl
        rcases hz with rfl | rfl | rfl | rfl | rfl
        · refine ⟨[], a1, b1, some (.fz (.int 0)), y6, by decide, (fun x h => nomatch h), ?_⟩
          unfold gG_law_order_b2
          rw [← ordTail]
          generalize mG_law_take = mt at e1
          generalize ordTail = ot
          simp only [List.map_cons, List.map_nil, List.length_cons, List.length_nil, List.replicate, List.cons_append, List.nil_append, List.getElem?_cons_zero, List.getElem?_cons_succ, List.set_cons_succ, List.set_cons_zero, Nat.reduceSub, Nat.zero_add, Nat.reduceAdd, Option.map_some, Option.map_none, Option.bind_some, if_true, List.length_map, List.length_range, e_setE0, e_setES, e_dOf, e_fzOf, e_fz, e_ow, e_gSl0, e_gSlS, e_gFz0, e_gFzS, e_kC, e_aNil, e_aCons, e_dLst, e_dTup, e_b2, e_pI, e_pAddI, e_pAddL, e_callD, e_bOf, e_bNot, e_bTru, e_truB, e_bAnd, e_bOr, e_vAnd, e_bYes, e_pLenL, e_pLenT, e_pAbs, e_pListOf, e_pIxL, e_pIxT, e_vIsi, e_iLst, e_iEnm, e_gNm, e_oNil, e_oSeq, e_oSet, e_oRet, e_oIf, e_oFor, e_oFrz, e_vLc, e_frz0w, e_frz0f, e_frzS, e_wipeN, e_wipeC, e_oRetV, e_oApp, e_oExt, e_iOwn, e_iOwnE, e_gTpl2, e_pEqI, e_pNeI, e_pNeB, e_pEqB, e_vChain, e_vNeg, e_vRev, e_oInt, e_dSl, e_vNot, e_vOr, e_vLc2, e_isiL, e_isiI, e_isiB, e_isBB, e_oPar, e_oAug, e_oRevS, e_vIf, e_gGh, e_vRepL, e_pInt1B, e_oAugIx, e_mUnp, e_mPar2, e_mPar3, e_xTup, e_xLst, e_allN, e_allC, e_mDrp2, e_gTpl3, e_oSwap, e_vCallT, e_xCallO, e_mIns, e_mSetIx, e_vLend, e_flatO, e_flatFB, e_flatFI, e_isB, e_isNotBB, e_oUnp, e_iZp, e_oSetIxM, e_oIns, e_oWhile, e_xPV, e_xP, e_xPB, e_xPI, e_xV, e_xFz, e_x2, e_x2N, e_xB, e_xGix, e_mNil, e_mSeq, e_mIf, e_mRet, e_mSet, e_mGset, e_mGaug, e_mLft, e_mFor, e_mApp, e_gaNil, e_gaV, e_gaG, e_xCallG, Nat.reduceLT, Nat.reduceLeDiff, e1, c0, show ((0 : Int) == 1) = false from rfl, show ((0 : Int) == 2) = false from rfl, show decide ((2 : Int) < 0) = false from rfl, nums]
        · by_cases ho : 0 < o.length
          · refine ⟨[(o.length : Int) - 1], a1, b1, some (.fz (.int 1)), y6, by simp, (fun x h => by rw [List.mem_singleton.mp h]; omega), ?_⟩
            have d1 : decide ((0 : Int) < (o.length : Int)) = true := decide_eq_true (by omega)
            unfold gG_law_order_b2
            rw [← ordTail]
            generalize mG_law_take = mt at e1
            generalize ordTail = ot
            simp only [List.map_cons, List.map_nil, List.length_cons, List.length_nil, List.replicate, List.cons_append, List.nil_append, List.getElem?_cons_zero, List.getElem?_cons_succ, List.set_cons_succ, List.set_cons_zero, Nat.reduceSub, Nat.zero_add, Nat.reduceAdd, Option.map_some, Option.map_none, Option.bind_some, if_true, List.length_map, List.length_range, e_setE0, e_setES, e_dOf, e_fzOf, e_fz, e_ow, e_gSl0, e_gSlS, e_gFz0, e_gFzS, e_kC, e_aNil, e_aCons, e_dLst, e_dTup, e_b2, e_pI, e_pAddI, e_pAddL, e_callD, e_bOf, e_bNot, e_bTru, e_truB, e_bAnd, e_bOr, e_vAnd, e_bYes, e_pLenL, e_pLenT, e_pAbs, e_pListOf, e_pIxL, e_pIxT, e_vIsi, e_iLst, e_iEnm, e_gNm, e_oNil, e_oSeq, e_oSet, e_oRet, e_oIf, e_oFor, e_oFrz, e_vLc, e_frz0w, e_frz0f, e_frzS, e_wipeN, e_wipeC, e_oRetV, e_oApp, e_oExt, e_iOwn, e_iOwnE, e_gTpl2, e_pEqI, e_pNeI, e_pNeB, e_pEqB, e_vChain, e_vNeg, e_vRev, e_oInt, e_dSl, e_vNot, e_vOr, e_vLc2, e_isiL, e_isiI, e_isiB, e_isBB, e_oPar, e_oAug, e_oRevS, e_vIf, e_gGh, e_vRepL, e_pInt1B, e_oAugIx, e_mUnp, e_mPar2, e_mPar3, e_xTup, e_xLst, e_allN, e_allC, e_mDrp2, e_gTpl3, e_oSwap, e_vCallT, e_xCallO, e_mIns, e_mSetIx, e_vLend, e_flatO, e_flatFB, e_flatFI, e_isB, e_isNotBB, e_oUnp, e_iZp, e_oSetIxM, e_oIns, e_oWhile, e_xPV, e_xP, e_xPB, e_xPI, e_xV, e_xFz, e_x2, e_x2N, e_xB, e_xGix, e_mNil, e_mSeq, e_mIf, e_mRet, e_mSet, e_mGset, e_mGaug, e_mLft, e_mFor, e_mApp, e_gaNil, e_gaV, e_gaG, e_xCallG, Nat.reduceLT, Nat.reduceLeDiff, e1, c0, c1, d1, show ((1 : Int) == 1) = true from rfl, show ((1 : Int) == 2) = false from rfl, show decide ((2 : Int) < 1) = false from rfl, nums]
          · refine ⟨[], a1, b1, some (.fz (.int 1)), y6, by decide, (fun x h => nomatch h), ?_⟩
            have d1 : decide ((0 : Int) < (o.length : Int)) = false := decide_eq_false (by omega)
            unfold gG_law_order_b2
            rw [← ordTail]
            generalize mG_law_take = mt at e1
            generalize ordTail = ot
            simp only [List.map_cons, List.map_nil, List.length_cons, List.length_nil, List.replicate, List.cons_append, List.nil_append, List.getElem?_cons_zero, List.getElem?_cons_succ, List.set_cons_succ, List.set_cons_zero, Nat.reduceSub, Nat.zero_add, Nat.reduceAdd, Option.map_some, Option.map_none, Option.bind_some, if_true, List.length_map, List.length_range, e_setE0, e_setES, e_dOf, e_fzOf, e_fz, e_ow, e_gSl0, e_gSlS, e_gFz0, e_gFzS, e_kC, e_aNil, e_aCons, e_dLst, e_dTup, e_b2, e_pI, e_pAddI, e_pAddL, e_callD, e_bOf, e_bNot, e_bTru, e_truB, e_bAnd, e_bOr, e_vAnd, e_bYes, e_pLenL, e_pLenT, e_pAbs, e_pListOf, e_pIxL, e_pIxT, e_vIsi, e_iLst, e_iEnm, e_gNm, e_oNil, e_oSeq, e_oSet, e_oRet, e_oIf, e_oFor, e_oFrz, e_vLc, e_frz0w, e_frz0f, e_frzS, e_wipeN, e_wipeC, e_oRetV, e_oApp, e_oExt, e_iOwn, e_iOwnE, e_gTpl2, e_pEqI, e_pNeI, e_pNeB, e_pEqB, e_vChain, e_vNeg, e_vRev, e_oInt, e_dSl, e_vNot, e_vOr, e_vLc2, e_isiL, e_isiI, e_isiB, e_isBB, e_oPar, e_oAug, e_oRevS, e_vIf, e_gGh, e_vRepL, e_pInt1B, e_oAugIx, e_mUnp, e_mPar2, e_mPar3, e_xTup, e_xLst, e_allN, e_allC, e_mDrp2, e_gTpl3, e_oSwap, e_vCallT, e_xCallO, e_mIns, e_mSetIx, e_vLend, e_flatO, e_flatFB, e_flatFI, e_isB, e_isNotBB, e_oUnp, e_iZp, e_oSetIxM, e_oIns, e_oWhile, e_xPV, e_xP, e_xPB, e_xPI, e_xV, e_xFz, e_x2, e_x2N, e_xB, e_xGix, e_mNil, e_mSeq, e_mIf, e_mRet, e_mSet, e_mGset, e_mGaug, e_mLft, e_mFor, e_mApp, e_gaNil, e_gaV, e_gaG, e_xCallG, Nat.reduceLT, Nat.reduceLeDiff, e1, c0, c1, d1, show ((1 : Int) == 1) = true from rfl, show ((1 : Int) == 2) = false from rfl, show decide ((2 : Int) < 1) = false from rfl, nums]
        · by_cases ho : 0 < o.length
          · obtain ⟨t, a2, b2, e2, t0, t1⟩ := take_at a1 b1 (o.length : Int) (by omega) (by omega)
            refine ⟨[t], a2, b2, some (.fz (.int 2)), y6, by simp, (fun x h => by rw [List.mem_singleton.mp h]; omega), ?_⟩
            have d1 : decide ((0 : Int) < (o.length : Int)) = true := decide_eq_true (by omega)
            unfold gG_law_order_b2
            rw [← ordTail]
            generalize mG_law_take = mt at e1 e2
            generalize ordTail = ot
            simp only [List.map_cons, List.map_nil, List.length_cons, List.length_nil, List.replicate, List.cons_append, List.nil_append, List.getElem?_cons_zero, List.getElem?_cons_succ, List.set_cons_succ, List.set_cons_zero, Nat.reduceSub, Nat.zero_add, Nat.reduceAdd, Option.map_some, Option.map_none, Option.bind_some, if_true, List.length_map, List.length_range, e_setE0, e_setES, e_dOf, e_fzOf, e_fz, e_ow, e_gSl0, e_gSlS, e_gFz0, e_gFzS, e_kC, e_aNil, e_aCons, e_dLst, e_dTup, e_b2, e_pI, e_pAddI, e_pAddL, e_callD, e_bOf, e_bNot, e_bTru, e_truB, e_bAnd, e_bOr, e_vAnd, e_bYes, e_pLenL, e_pLenT, e_pAbs, e_pListOf, e_pIxL, e_pIxT, e_vIsi, e_iLst, e_iEnm, e_gNm, e_oNil, e_oSeq, e_oSet, e_oRet, e_oIf, e_oFor, e_oFrz, e_vLc, e_frz0w, e_frz0f, e_frzS, e_wipeN, e_wipeC, e_oRetV, e_oApp, e_oExt, e_iOwn, e_iOwnE, e_gTpl2, e_pEqI, e_pNeI, e_pNeB, e_pEqB, e_vChain, e_vNeg, e_vRev, e_oInt, e_dSl, e_vNot, e_vOr, e_vLc2, e_isiL, e_isiI, e_isiB, e_isBB, e_oPar, e_oAug, e_oRevS, e_vIf, e_gGh, e_vRepL, e_pInt1B, e_oAugIx, e_mUnp, e_mPar2, e_mPar3, e_xTup, e_xLst, e_allN, e_allC, e_mDrp2, e_gTpl3, e_oSwap, e_vCallT, e_xCallO, e_mIns, e_mSetIx, e_vLend, e_flatO, e_flatFB, e_flatFI, e_isB, e_isNotBB, e_oUnp, e_iZp, e_oSetIxM, e_oIns, e_oWhile, e_xPV, e_xP, e_xPB, e_xPI, e_xV, e_xFz, e_x2, e_x2N, e_xB, e_xGix, e_mNil, e_mSeq, e_mIf, e_mRet, e_mSet, e_mGset, e_mGaug, e_mLft, e_mFor, e_mApp, e_gaNil, e_gaV, e_gaG, e_xCallG, Nat.reduceLT, Nat.reduceLeDiff, e1, e2, c0, c1, d1, show ((2 : Int) == 1) = false from rfl, show ((2 : Int) == 2) = true from rfl, show decide ((2 : Int) < 2) = false from rfl, nums]
          · refine ⟨[], a1, b1, some (.fz (.int 2)), y6, by decide, (fun x h => nomatch h), ?_⟩
            have d1 : decide ((0 : Int) < (o.length : Int)) = false := decide_eq_false (by omega)
            unfold gG_law_order_b2
            rw [← ordTail]
            generalize mG_law_take = mt at e1
            generalize ordTail = ot
            simp only [List.map_cons, List.map_nil, List.length_cons, List.length_nil, List.replicate, List.cons_append, List.nil_append, List.getElem?_cons_zero, List.getElem?_cons_succ, List.set_cons_succ, List.set_cons_zero, Nat.reduceSub, Nat.zero_add, Nat.reduceAdd, Option.map_some, Option.map_none, Option.bind_some, if_true, List.length_map, List.length_range, e_setE0, e_setES, e_dOf, e_fzOf, e_fz, e_ow, e_gSl0, e_gSlS, e_gFz0, e_gFzS, e_kC, e_aNil, e_aCons, e_dLst, e_dTup, e_b2, e_pI, e_pAddI, e_pAddL, e_callD, e_bOf, e_bNot, e_bTru, e_truB, e_bAnd, e_bOr, e_vAnd, e_bYes, e_pLenL, e_pLenT, e_pAbs, e_pListOf, e_pIxL, e_pIxT, e_vIsi, e_iLst, e_iEnm, e_gNm, e_oNil, e_oSeq, e_oSet, e_oRet, e_oIf, e_oFor, e_oFrz, e_vLc, e_frz0w, e_frz0f, e_frzS, e_wipeN, e_wipeC, e_oRetV, e_oApp, e_oExt, e_iOwn, e_iOwnE, e_gTpl2, e_pEqI, e_pNeI, e_pNeB, e_pEqB, e_vChain, e_vNeg, e_vRev, e_oInt, e_dSl, e_vNot, e_vOr, e_vLc2, e_isiL, e_isiI, e_isiB, e_isBB, e_oPar, e_oAug, e_oRevS, e_vIf, e_gGh, e_vRepL, e_pInt1B, e_oAugIx, e_mUnp, e_mPar2, e_mPar3, e_xTup, e_xLst, e_allN, e_allC, e_mDrp2, e_gTpl3, e_oSwap, e_vCallT, e_xCallO, e_mIns, e_mSetIx, e_vLend, e_flatO, e_flatFB, e_flatFI, e_isB, e_isNotBB, e_oUnp, e_iZp, e_oSetIxM, e_oIns, e_oWhile, e_xPV, e_xP, e_xPB, e_xPI, e_xV, e_xFz, e_x2, e_x2N, e_xB, e_xGix, e_mNil, e_mSeq, e_mIf, e_mRet, e_mSet, e_mGset, e_mGaug, e_mLft, e_mFor, e_mApp, e_gaNil, e_gaV, e_gaG, e_xCallG, Nat.reduceLT, Nat.reduceLeDiff, e1, c0, c1, d1, show ((2 : Int) == 1) = false from rfl, show ((2 : Int) == 2) = true from rfl, show decide ((2 : Int) < 2) = false from rfl, nums]
        · obtain ⟨m1, a2, b2, e2, _, _⟩ := take_at a1 b1 _ s0 s1
          obtain ⟨m2, a3, b3, e3, _, _⟩ := take_at a2 b2 _ s0 s1
          have lm := lc (Builtin.bitAnd m1 m2)
          obtain ⟨f1, f2⟩ := fl fun (k : Nat) => (Builtin.bitAnd (Builtin.bitAnd m1 m2 / 2 ^ ((k : Int).toNat)) 1 == 1)
          refine ⟨_, a3, b3, some (.fz (.int 3)), some (.fz (.int (Builtin.bitAnd m1 m2))), f1, f2, ?_⟩
          unfold gG_law_order_b2
          rw [← ordTail]
          generalize mG_law_take = mt at e1 e2 e3
          generalize ordTail = ot
          generalize ((List.range o.length).filter fun (k : Nat) => (Builtin.bitAnd (Builtin.bitAnd m1 m2 / 2 ^ ((k : Int).toNat)) 1 == 1)).map (fun (k : Nat) => (k : Int)) = R at lm
          simp only [List.map_cons, List.map_nil, List.length_cons, List.length_nil, List.replicate, List.cons_append, List.nil_append, List.getElem?_cons_zero, List.getElem?_cons_succ, List.set_cons_succ, List.set_cons_zero, Nat.reduceSub, Nat.zero_add, Nat.reduceAdd, Option.map_some, Option.map_none, Option.bind_some, if_true, List.length_map, List.length_range, e_setE0, e_setES, e_dOf, e_fzOf, e_fz, e_ow, e_gSl0, e_gSlS, e_gFz0, e_gFzS, e_kC, e_aNil, e_aCons, e_dLst, e_dTup, e_b2, e_pI, e_pAddI, e_pAddL, e_callD, e_bOf, e_bNot, e_bTru, e_truB, e_bAnd, e_bOr, e_vAnd, e_bYes, e_pLenL, e_pLenT, e_pAbs, e_pListOf, e_pIxL, e_pIxT, e_vIsi, e_iLst, e_iEnm, e_gNm, e_oNil, e_oSeq, e_oSet, e_oRet, e_oIf, e_oFor, e_oFrz, e_vLc, e_frz0w, e_frz0f, e_frzS, e_wipeN, e_wipeC, e_oRetV, e_oApp, e_oExt, e_iOwn, e_iOwnE, e_gTpl2, e_pEqI, e_pNeI, e_pNeB, e_pEqB, e_vChain, e_vNeg, e_vRev, e_oInt, e_dSl, e_vNot, e_vOr, e_vLc2, e_isiL, e_isiI, e_isiB, e_isBB, e_oPar, e_oAug, e_oRevS, e_vIf, e_gGh, e_vRepL, e_pInt1B, e_oAugIx, e_mUnp, e_mPar2, e_mPar3, e_xTup, e_xLst, e_allN, e_allC, e_mDrp2, e_gTpl3, e_oSwap, e_vCallT, e_xCallO, e_mIns, e_mSetIx, e_vLend, e_flatO, e_flatFB, e_flatFI, e_isB, e_isNotBB, e_oUnp, e_iZp, e_oSetIxM, e_oIns, e_oWhile, e_xPV, e_xP, e_xPB, e_xPI, e_xV, e_xFz, e_x2, e_x2N, e_xB, e_xGix, e_mNil, e_mSeq, e_mIf, e_mRet, e_mSet, e_mGset, e_mGaug, e_mLft, e_mFor, e_mApp, e_gaNil, e_gaV, e_gaG, e_xCallG, Nat.reduceLT, Nat.reduceLeDiff, e1, e2, e3, c0, c1, pw, itr, lm, c14, show ((3 : Int) == 1) = false from rfl, show ((3 : Int) == 2) = false from rfl, show decide ((2 : Int) < 3) = true from rfl, show ((3 : Int) == 3) = true from rfl]
        · obtain ⟨m1, a2, b2, e2, _, _⟩ := take_at a1 b1 _ s0 s1
          have lm := lc m1
          obtain ⟨f1, f2⟩ := fl fun (k : Nat) => (Builtin.bitAnd (m1 / 2 ^ ((k : Int).toNat)) 1 == 1)
          refine ⟨_, a2, b2, some (.fz (.int 4)), some (.fz (.int m1)), f1, f2, ?_⟩
          unfold gG_law_order_b2
          rw [← ordTail]
          generalize mG_law_take = mt at e1 e2
          generalize ordTail = ot
          generalize ((List.range o.length).filter fun (k : Nat) => (Builtin.bitAnd (m1 / 2 ^ ((k : Int).toNat)) 1 == 1)).map (fun (k : Nat) => (k : Int)) = R at lm
          simp only [List.map_cons, List.map_nil, List.length_cons, List.length_nil, List.replicate, List.cons_append, List.nil_append, List.getElem?_cons_zero, List.getElem?_cons_succ, List.set_cons_succ, List.set_cons_zero, Nat.reduceSub, Nat.zero_add, Nat.reduceAdd, Option.map_some, Option.map_none, Option.bind_some, if_true, List.length_map, List.length_range, e_setE0, e_setES, e_dOf, e_fzOf, e_fz, e_ow, e_gSl0, e_gSlS, e_gFz0, e_gFzS, e_kC, e_aNil, e_aCons, e_dLst, e_dTup, e_b2, e_pI, e_pAddI, e_pAddL, e_callD, e_bOf, e_bNot, e_bTru, e_truB, e_bAnd, e_bOr, e_vAnd, e_bYes, e_pLenL, e_pLenT, e_pAbs, e_pListOf, e_pIxL, e_pIxT, e_vIsi, e_iLst, e_iEnm, e_gNm, e_oNil, e_oSeq, e_oSet, e_oRet, e_oIf, e_oFor, e_oFrz, e_vLc, e_frz0w, e_frz0f, e_frzS, e_wipeN, e_wipeC, e_oRetV, e_oApp, e_oExt, e_iOwn, e_iOwnE, e_gTpl2, e_pEqI, e_pNeI, e_pNeB, e_pEqB, e_vChain, e_vNeg, e_vRev, e_oInt, e_dSl, e_vNot, e_vOr, e_vLc2, e_isiL, e_isiI, e_isiB, e_isBB, e_oPar, e_oAug, e_oRevS, e_vIf, e_gGh, e_vRepL, e_pInt1B, e_oAugIx, e_mUnp, e_mPar2, e_mPar3, e_xTup, e_xLst, e_allN, e_allC, e_mDrp2, e_gTpl3, e_oSwap, e_vCallT, e_xCallO, e_mIns, e_mSetIx, e_vLend, e_flatO, e_flatFB, e_flatFI, e_isB, e_isNotBB, e_oUnp, e_iZp, e_oSetIxM, e_oIns, e_oWhile, e_xPV, e_xP, e_xPB, e_xPI, e_xV, e_xFz, e_x2, e_x2N, e_xB, e_xGix, e_mNil, e_mSeq, e_mIf, e_mRet, e_mSet, e_mGset, e_mGaug, e_mLft, e_mFor, e_mApp, e_gaNil, e_gaV, e_gaG, e_xCallG, Nat.reduceLT, Nat.reduceLeDiff, e1, e2, c0, c1, pw, itr, lm, c14, show ((4 : Int) == 1) = false from rfl, show ((4 : Int) == 2) = false from rfl, show decide ((2 : Int) < 4) = true from rfl, show ((4 : Int) == 3) = false from rfl]
      obtain ⟨sm, a2, b2, z4, z6, sl, sb, pe⟩ := pick
      obtain ⟨z7, z8, te⟩ := tail_spec o sm oo (by omega) sl sb (some (.fz (.int (n : Int)))) (some (.fz (.int (o.length : Int)))) z4 z6 y7 y8 [.int a2, .int b2]
      refine ⟨_, _, _, e_gNm, by simp only [List.map_cons, List.map_nil, List.length_cons, List.length_nil, List.replicate, List.cons_append, List.nil_append, List.getElem?_cons_zero, List.getElem?_cons_succ, List.set_cons_succ, List.set_cons_zero, Nat.reduceSub, Nat.zero_add, Nat.reduceAdd, Option.map_some, Option.map_none, Option.bind_some, if_true, List.length_map, List.length_range, e_setE0, e_setES, e_dOf, e_fzOf, e_fz, e_ow, e_gSl0, e_gSlS, e_gFz0, e_gFzS, e_kC, e_aNil, e_aCons, e_dLst, e_dTup, e_b2, e_pI, e_pAddI, e_pAddL, e_callD, e_bOf, e_bNot, e_bTru, e_truB, e_bAnd, e_bOr, e_vAnd, e_bYes, e_pLenL, e_pLenT, e_pAbs, e_pListOf, e_pIxL, e_pIxT, e_vIsi, e_iLst, e_iEnm, e_gNm, e_oNil, e_oSeq, e_oSet, e_oRet, e_oIf, e_oFor, e_oFrz, e_vLc, e_frz0w, e_frz0f, e_frzS, e_wipeN, e_wipeC, e_oRetV, e_oApp, e_oExt, e_iOwn, e_iOwnE, e_gTpl2, e_pEqI, e_pNeI, e_pNeB, e_pEqB, e_vChain, e_vNeg, e_vRev, e_oInt, e_dSl, e_vNot, e_vOr, e_vLc2, e_isiL, e_isiI, e_isiB, e_isBB, e_oPar, e_oAug, e_oRevS, e_vIf, e_gGh, e_vRepL, e_pInt1B, e_oAugIx, e_mUnp, e_mPar2, e_mPar3, e_xTup, e_xLst, e_allN, e_allC, e_mDrp2, e_gTpl3, e_oSwap, e_vCallT, e_xCallO, e_mIns, e_mSetIx, e_vLend, e_flatO, e_flatFB, e_flatFI, e_isB, e_isNotBB, e_oUnp, e_iZp, e_oSetIxM, e_oIns, e_oWhile, e_xPV, e_xP, e_xPB, e_xPI, e_xV, e_xFz, e_x2, e_x2N, e_xB, e_xGix, e_mNil, e_mSeq, e_mIf, e_mRet, e_mSet, e_mGset, e_mGaug, e_mLft, e_mFor, e_mApp, e_gaNil, e_gaV, e_gaG, e_xCallG, Nat.reduceLT, Nat.reduceLeDiff]; rw [pe, te], o ++ [sortU (bel o sm)], a2, b2, _, _, _, _, _, _, rfl, rfl, by rw [List.length_append, List.length_singleton]; omega, bel_snoc oo sb, by rw [List.length_append, List.length_singleton]; exact hrest⟩) (List.range n) [none, some (.fz (.int (n : Int))), some (.ow []), none, none, none, none, none, none] [.int a, .int b] ⟨[], a, b, none, none, none, none, none, none, rfl, rfl, by simp, fun j r h => by simp at h, by simp⟩
  rw [List.length_nil, Nat.add_zero] at ol
  refine ⟨o, a', b', ?_, ol, oo⟩
  unfold mG_law_order mirrorG gG_law_order startG
  generalize gG_law_order_b2 = bb at lp
  simp only [List.map_cons, List.map_nil, List.length_cons, List.length_nil, List.replicate, List.cons_append, List.nil_append, List.getElem?_cons_zero, List.getElem?_cons_succ, List.set_cons_succ, List.set_cons_zero, Nat.reduceSub, Nat.zero_add, Nat.reduceAdd, Option.map_some, Option.map_none, Option.bind_some, if_true, List.length_map, List.length_range, e_setE0, e_setES, e_dOf, e_fzOf, e_fz, e_ow, e_gSl0, e_gSlS, e_gFz0, e_gFzS, e_kC, e_aNil, e_aCons, e_dLst, e_dTup, e_b2, e_pI, e_pAddI, e_pAddL, e_callD, e_bOf, e_bNot, e_bTru, e_truB, e_bAnd, e_bOr, e_vAnd, e_bYes, e_pLenL, e_pLenT, e_pAbs, e_pListOf, e_pIxL, e_pIxT, e_vIsi, e_iLst, e_iEnm, e_gNm, e_oNil, e_oSeq, e_oSet, e_oRet, e_oIf, e_oFor, e_oFrz, e_vLc, e_frz0w, e_frz0f, e_frzS, e_wipeN, e_wipeC, e_oRetV, e_oApp, e_oExt, e_iOwn, e_iOwnE, e_gTpl2, e_pEqI, e_pNeI, e_pNeB, e_pEqB, e_vChain, e_vNeg, e_vRev, e_oInt, e_dSl, e_vNot, e_vOr, e_vLc2, e_isiL, e_isiI, e_isiB, e_isBB, e_oPar, e_oAug, e_oRevS, e_vIf, e_gGh, e_vRepL, e_pInt1B, e_oAugIx, e_mUnp, e_mPar2, e_mPar3, e_xTup, e_xLst, e_allN, e_allC, e_mDrp2, e_gTpl3, e_oSwap, e_vCallT, e_xCallO, e_mIns, e_mSetIx, e_vLend, e_flatO, e_flatFB, e_flatFI, e_isB, e_isNotBB, e_oUnp, e_iZp, e_oSetIxM, e_oIns, e_oWhile, e_xPV, e_xP, e_xPB, e_xPI, e_xV, e_xFz, e_x2, e_x2N, e_xB, e_xGix, e_mNil, e_mSeq, e_mIf, e_mRet, e_mSet, e_mGset, e_mGaug, e_mLft, e_mFor, e_mApp, e_gaNil, e_gaV, e_gaG, e_xCallG, Nat.reduceLT, Nat.reduceLeDiff, c0, it, lp]
end
end Com
namespace Bd
open PySem L2
noncomputable section
section
variable {S : Sx}
def vNilD : En → Option (List (List PyData)) := fun _ => some []
def owD (f : En → Option (List (List PyData))) : En → Option Sl := fun Γ => (f Γ).map fun xss => .ow (xss.map PyData.list)
def oAppAt (j : Nat) (fi f : En → Option PyData) : En2 → Option Out2 := fun Θ => match Θ[j]?, fi (prj Θ), f (prj Θ) with
  | some (some (.dw xss)), some (.int k), some d => (ixN xss.length k).bind fun i => (xss[i]?).bind fun xs => if xs.length < cap then some (.nx (Θ.set j (some (.dw (xss.set i (xs ++ [d])))))) else none
  | _, _, _ => none
def whileD2 (c : En → Option Bool) (b : En2 → Option Out2) : Nat → En2 → Option Out2
  | 0, _ => none
  | n + 1, Θ => match c (vw Θ) with
    | some true => (match b Θ with
      | some (.nx Θ2) => whileD2 c b n Θ2
      | some (.rt s) => some (.rt s)
      | none => none)
    | some false => some (.nx Θ)
    | none => none
def oWhile2 (n : Nat) (c : En → Option Bool) (b : En2 → Option Out2) : En2 → Option Out2 := whileD2 c b n
end
end
end Bd
namespace Fl
section
variable {bl : Nat → List Nat} {n : Nat} {g g' : Flow}
theorem CC_key (F : FI bl n g) (hb : Low bl) {m : Nat} (mn : m < n) : ((CC n g m).countP fun c => decide ((2 * lst c + 1, 2 * m) ∈ g)) + (if (2 * n, 2 * m) ∈ g then 1 else 0) = if (2 * m, 2 * m + 1) ∈ g then 1 else 0 := by
  have ih2 := (CC_ok F hb m (by omega)).2
  by_cases hg : (2 * m, 2 * m + 1) ∈ g
  · rw [if_pos hg]
    obtain ⟨x, hx⟩ := F.in_of_gate mn hg
    obtain ⟨w, hw⟩ := F.ar _ hx
    obtain ⟨r, hr, hh⟩ := mem_arcs.mp hw
    rcases hh with hh | hh | hh | ⟨l, hl, hh⟩ <;> injection hh with b1 b2 <;> injection b2 with b2 b3
    · have hx' : (2 * n, 2 * m) ∈ g := by rw [← b1]; exact hx
      rw [if_pos hx']
      have : ((CC n g m).countP fun c => decide ((2 * lst c + 1, 2 * m) ∈ g)) = 0 := List.countP_eq_zero.mpr fun c _ hc => by
        have hc := of_decide_eq_true hc
        have e := cnt_uniq F.nd (F.foot1 hb mn) hc hx' (decide_eq_true rfl) (decide_eq_true rfl)
        injection e with e _
        omega
      omega
    · omega
    · omega
    · have hx' : (2 * l + 1, 2 * m) ∈ g := by rw [← b1]; exact hx
      have rm : r = m := by omega
      subst rm
      have lm := hb r l hl
      have nS : (2 * n, 2 * r) ∉ g := fun z => by
        have e := cnt_uniq F.nd (F.foot1 hb mn) z hx' (decide_eq_true rfl) (decide_eq_true rfl)
        injection e with e _
        omega
      rw [if_neg nS]
      have one := ih2 l lm (F.gate_of_out hb (by omega) hx' rfl) fun y _ hy hin => by
        have e := cnt_uniq F.nd (F.head1 hb (show l < n by omega)) hin hx' (decide_eq_true rfl) (decide_eq_true rfl)
        injection e with _ e
        omega
      have e : ((CC n g r).countP fun c => decide ((2 * lst c + 1, 2 * r) ∈ g)) = (CC n g r).countP fun c => decide (lst c = l) := by
        apply List.countP_congr
        intro c _
        rw [decide_eq_true_iff, decide_eq_true_iff]
        constructor
        · intro z
          have e := cnt_uniq F.nd (F.foot1 hb mn) z hx' (decide_eq_true rfl) (decide_eq_true rfl)
          injection e with e _
          omega
        · intro z; rw [z]; exact hx'
      rw [e, one]
  · rw [if_neg hg]
    have no : ∀ x, (x, 2 * m) ∉ g := fun x hx => hg (F.gate_of_in hb mn hx rfl)
    rw [if_neg (no _)]
    have : ((CC n g m).countP fun c => decide ((2 * lst c + 1, 2 * m) ∈ g)) = 0 := List.countP_eq_zero.mpr fun c _ hc => no _ (of_decide_eq_true hc)
    omega
inductive Ch (n : Nat) (g : Flow) : List Nat → Prop
  | one {x : Nat} : (2 * n, 2 * x) ∈ g → Ch n g [x]
  | more {c : List Nat} {x : Nat} : Ch n g c → (2 * lst c + 1, 2 * x) ∈ g → Ch n g (c ++ [x])
theorem lst_snoc (c : List Nat) (x : Nat) : lst (c ++ [x]) = x := by unfold lst; simp
theorem CC_ch : ∀ m, ∀ c ∈ CC n g m, Ch n g c ∧ lst c < m ∧ (∀ y, lst c < y → y < m → (2 * lst c + 1, 2 * y) ∉ g)
  | 0, c, h => nomatch h
  | m + 1, c, h => by
    unfold CC at h
    rcases List.mem_append.mp h with h | h
    · obtain ⟨d, hd, rfl⟩ := List.mem_map.mp h
      obtain ⟨i1, i2, i3⟩ := CC_ch m d hd
      by_cases q : (2 * lst d + 1, 2 * m) ∈ g
      · have e : stepC g d m = d ++ [m] := if_pos q
        rw [e, lst_snoc]
        exact ⟨.more i1 q, by omega, fun y h1 h2 => by omega⟩
      · have e : stepC g d m = d := if_neg q
        rw [e]
        refine ⟨i1, by omega, fun y h1 h2 => ?_⟩
        by_cases z : y = m
        · subst z; exact q
        · exact i3 y h1 (by omega)
    · split at h
      · next hs =>
        rw [List.mem_singleton.mp h]
        exact ⟨.one hs, by show m < m + 1; omega, fun y h1 h2 => by have h1 : m < y := h1; omega⟩
      · exact nomatch h
theorem in_lt (F : FI bl n g) {x y : Nat} (h : (y, 2 * x) ∈ g) : x < n := by
  obtain ⟨w, hw⟩ := F.ar _ h
  obtain ⟨t, ht, hh⟩ := mem_arcs.mp hw
  rcases hh with hh | hh | hh | ⟨l, hl, hh⟩ <;> injection hh with b1 b2 <;> injection b2 with b2 b3 <;> omega
theorem Ch.gate {c : List Nat} (C : Ch n g c) (F : FI bl n g) (hb : Low bl) : (2 * lst c, 2 * lst c + 1) ∈ g := by
  cases C with
  | one h => exact F.gate_of_in hb (in_lt F h) h rfl
  | more _ h => rw [lst_snoc]; exact F.gate_of_in hb (in_lt F h) h rfl
theorem CC_end (F : FI bl n g) (hb : Low bl) {c : List Nat} (hc : c ∈ CC n g n) : (2 * lst c + 1, 2 * n + 1) ∈ g := by
  obtain ⟨C, l1, l2⟩ := CC_ch n c hc
  obtain ⟨x, hx⟩ := F.out_of_gate l1 (C.gate F hb)
  obtain ⟨w, hw⟩ := F.ar _ hx
  obtain ⟨t, ht, hh⟩ := mem_arcs.mp hw
  rcases hh with hh | hh | hh | ⟨l, hl, hh⟩ <;> injection hh with b1 b2 <;> injection b2 with b2 b3
  · omega
  · omega
  · rw [← b2]; exact hx
  · have := hb t l hl
    have b2 : x = 2 * t := b2
    subst b2
    exact absurd hx (l2 t (by omega) ht)
theorem link (F : FI bl n g) {l x : Nat} (h : (2 * l + 1, 2 * x) ∈ g) : l ∈ bl x ∧ (2 * l + 1, 2 * x, (0 : Int)) ∈ arcs bl n := by
  obtain ⟨w, hw⟩ := F.ar _ h
  obtain ⟨t, ht, hh⟩ := mem_arcs.mp hw
  rcases hh with hh | hh | hh | ⟨l', hl, hh⟩ <;> injection hh with b1 b2 <;> injection b2 with b2 b3
  · omega
  · omega
  · omega
  · have e1 : l = l' := by omega
    have e2 : x = t := by omega
    subst e1; subst e2
    exact ⟨hl, mem_arcs.mpr ⟨x, ht, .inr (.inr (.inr ⟨l, hl, rfl⟩))⟩⟩
def Trans (bl : Nat → List Nat) : Prop := ∀ x y z, x ∈ bl y → y ∈ bl z → x ∈ bl z
theorem Ch.chain {c : List Nat} (C : Ch n g c) (F : FI bl n g) (tr : Trans bl) : c.Pairwise (fun x y => x ∈ bl y) ∧ ∀ d ∈ c, d = lst c ∨ d ∈ bl (lst c) := by
  induction C with
  | one h => exact ⟨List.pairwise_singleton .., fun d hd => .inl (List.mem_singleton.mp hd)⟩
  | @more c x C h ih =>
    obtain ⟨i1, i2⟩ := ih
    have lk := (link F h).1
    have all : ∀ d ∈ c, d ∈ bl x := fun d hd => by
      rcases i2 d hd with rfl | q
      · exact lk
      · exact tr _ _ _ q lk
    refine ⟨List.pairwise_append.mpr ⟨i1, List.pairwise_singleton .., fun d hd y hy => by rw [List.mem_singleton.mp hy]; exact all d hd⟩, fun d hd => ?_⟩
    rw [lst_snoc]
    rcases List.mem_append.mp hd with hd | hd
    · exact .inr (all d hd)
    · exact .inl (List.mem_singleton.mp hd)
theorem cnt_step (m x : Nat) : ∀ C : List (List Nat), (C.map fun c => stepC g c m).flatten.count x = C.flatten.count x + if x = m then C.countP (fun c => decide ((2 * lst c + 1, 2 * m) ∈ g)) else 0
  | [] => by simp
  | c :: C => by
    have ih := cnt_step m x C
    rw [List.map_cons, List.flatten_cons, List.count_append, ih, List.flatten_cons, List.count_append, List.countP_cons]
    by_cases q : (2 * lst c + 1, 2 * m) ∈ g
    · have e : stepC g c m = c ++ [m] := if_pos q
      rw [e, List.count_append, if_pos (decide_eq_true q)]
      by_cases z : x = m
      · subst z
        rw [if_pos rfl, if_pos rfl, List.count_singleton_self]
        omega
      · rw [if_neg z, if_neg z, List.count_singleton, if_neg (by simpa using fun h => z h.symm)]
        omega
    · have e : stepC g c m = c := if_neg q
      have d : ¬ decide ((2 * lst c + 1, 2 * m) ∈ g) = true := fun z => q (of_decide_eq_true z)
      rw [e]
      by_cases z : x = m
      · rw [if_pos z, if_pos z, if_neg d]; omega
      · rw [if_neg z, if_neg z]; omega
theorem CC_count (F : FI bl n g) (hb : Low bl) : ∀ m, m ≤ n → ∀ x, (CC n g m).flatten.count x = if x < m ∧ (2 * x, 2 * x + 1) ∈ g then 1 else 0
  | 0, _, x => by rw [if_neg (by omega)]; rfl
  | m + 1, hm, x => by
    have ih := CC_count F hb m (by omega) x
    have key := CC_key F hb (show m < n by omega)
    unfold CC
    rw [List.flatten_append, List.count_append, cnt_step, ih]
    have e : (if (2 * n, 2 * m) ∈ g then [[m]] else [] : List (List Nat)).flatten.count x = if x = m ∧ (2 * n, 2 * m) ∈ g then 1 else 0 := by
      by_cases h : (2 * n, 2 * m) ∈ g
      · rw [if_pos h]
        by_cases z : x = m
        · subst z; rw [if_pos ⟨rfl, h⟩]; simp
        · rw [if_neg fun q => z q.1]
          show [m].count x = 0
          rw [List.count_singleton, if_neg (by simpa using fun h => z h.symm)]
      · rw [if_neg h, if_neg fun q => h q.2]; rfl
    rw [e]
    by_cases z : x = m
    · subst z
      rw [if_neg (show ¬ (x < x ∧ _) by omega), if_pos rfl]
      by_cases h : (2 * n, 2 * x) ∈ g
      · rw [if_pos ⟨rfl, h⟩]
        rw [if_pos h] at key
        by_cases k : (2 * x, 2 * x + 1) ∈ g
        · rw [if_pos k] at key; rw [if_pos ⟨by omega, k⟩]; omega
        · rw [if_neg k] at key; omega
      · rw [if_neg fun q => h q.2]
        rw [if_neg h] at key
        by_cases k : (2 * x, 2 * x + 1) ∈ g
        · rw [if_pos k] at key; rw [if_pos ⟨by omega, k⟩]; omega
        · rw [if_neg k] at key; rw [if_neg fun q => k q.2]; omega
    · have z2 : ¬ (x = m ∧ (2 * n, 2 * m) ∈ g) := fun q => z q.1
      rw [if_neg z, if_neg z2]
      by_cases h : x < m ∧ (2 * x, 2 * x + 1) ∈ g
      · rw [if_pos h, if_pos ⟨by omega, h.2⟩]
      · rw [if_neg h, if_neg fun q => h ⟨by omega, q.2⟩]
def gt (g : Flow) (t : Nat) : Bool := decide ((2 * t, 2 * t + 1) ∈ g)
theorem CC_perm (F : FI bl n g) (hb : Low bl) : (CC n g n).flatten.Perm ((List.range n).filter (gt g)) := by
  refine List.perm_iff_count.mpr fun x => ?_
  rw [CC_count F hb n (Nat.le_refl _) x]
  by_cases h : x < n ∧ (2 * x, 2 * x + 1) ∈ g
  · rw [if_pos h]
    have nd : ((List.range n).filter (gt g)).Nodup := List.nodup_range.filter _
    have mem : x ∈ (List.range n).filter (gt g) := List.mem_filter.mpr ⟨List.mem_range.mpr h.1, decide_eq_true h.2⟩
    rw [List.Nodup.count nd, if_pos mem]
  · rw [if_neg h]
    refine (List.count_eq_zero.mpr fun z => h ?_).symm
    have z := List.mem_filter.mp z
    exact ⟨List.mem_range.mp z.1, of_decide_eq_true z.2⟩
theorem CC_cnt (F : FI bl n g) (hb : Low bl) (S : Nat → Bool) : (CC n g n).flatten.countP S = (List.range n).countP fun t => S t && gt g t := by
  rw [(CC_perm F hb).countP_eq, List.countP_filter]
theorem src_cnt (F : FI bl n g) : (CC n g n).length = out g (2 * n) := by
  rw [← chains_eq]
  unfold chains out
  rw [List.length_map, List.countP_eq_length_filter]
  have e : ((List.range n).filter fun t => decide ((2 * n, 2 * t) ∈ g)).length = (((List.range n).filter fun t => decide ((2 * n, 2 * t) ∈ g)).map fun t => (2 * n, 2 * t)).length := by rw [List.length_map]
  rw [e]
  apply List.Perm.length_eq
  refine (List.perm_ext_iff_of_nodup ?_ ?_).mpr fun p => ?_
  · refine List.pairwise_map.mpr ((List.nodup_range.filter _).imp fun {a b} hab z => hab ?_)
    injection z with _ z1
    omega
  · exact F.nd.filter _
  · rw [List.mem_filter, List.mem_map]
    constructor
    · rintro ⟨t, ht, rfl⟩
      exact ⟨of_decide_eq_true (List.mem_filter.mp ht).2, decide_eq_true rfl⟩
    · rintro ⟨hp, hq⟩
      have hq := of_decide_eq_true hq
      obtain ⟨w, h⟩ := F.ar p hp
      obtain ⟨t, ht, hh⟩ := mem_arcs.mp h
      rcases hh with hh | hh | hh | ⟨l, hl, hh⟩ <;> injection hh with a1 a2 <;> injection a2 with a2 _
      · have e : p = (2 * n, 2 * t) := Prod.ext a1 a2
        exact ⟨t, List.mem_filter.mpr ⟨List.mem_range.mpr ht, decide_eq_true (e ▸ hp)⟩, e.symm⟩
      · omega
      · omega
      · omega
theorem inn_S (F : FI bl n g) : inn g (2 * n) = 0 := List.countP_eq_zero.mpr fun p hp hq => by
  have hq := of_decide_eq_true hq
  obtain ⟨w, h⟩ := F.ar p hp
  obtain ⟨t, ht, hh⟩ := mem_arcs.mp h
  rcases hh with hh | hh | hh | ⟨l, hl, hh⟩ <;> injection hh with a1 a2 <;> injection a2 with a2 _ <;> omega
theorem grow_src {π : Nat → Int} {M : Mk} {A : Nat → Option Nat} {τ : Nat → Nat} (F : FI bl n g) (hb : Low bl) (W : BW (opens bl n g) (2 * n) π M A τ) (all : ∀ v, v < 2 * n + 2 → M v ≠ none) {k : Nat} (hk : 2 * n + 2 < k) {g' : Flow} (F' : FI bl n g') (hg : grw A k (2 * n + 1) g = some g') : out g' (2 * n) = out g (2 * n) + 1 := by
  have rk : rnk n τ (2 * n + 1) < k := by
    unfold rnk
    have := List.countP_le_length (p := fun x => decide (τ x < τ (2 * n + 1))) (l := List.range (2 * n + 2))
    rw [List.length_range] at this
    omega
  obtain ⟨g2, e, I⟩ := grow_go F hb W all k (2 * n + 1) g rk ⟨F.nd, F.ar, fun x => by unfold ind; omega, fun m k hm hk => by rw [hm] at hk; cases hk; omega, fun x u _ _ _ => ⟨Iff.rfl, Iff.rfl⟩, fun p hp => .inl hp, fun p hp hn => absurd hp hn, .inl rfl, by omega⟩
  rw [hg] at e
  cases e
  have h1 := I.ex (2 * n)
  unfold ind at h1
  rw [if_neg (by omega), if_pos rfl, inn_S F, inn_S F'] at h1
  omega
end
end Fl
namespace Fl
theorem cnt_or {α : Type} {p q : α → Bool} : ∀ {l : List α}, (∀ x ∈ l, p x = true → q x = true → False) → l.countP (fun x => p x || q x) = l.countP p + l.countP q
  | [], _ => rfl
  | x :: l, h => by
    have ih := cnt_or (l := l) fun y hy => h y (List.mem_cons_of_mem _ hy)
    have hx := h x List.mem_cons_self
    rw [List.countP_cons, List.countP_cons, List.countP_cons, ih]
    cases e1 : p x <;> cases e2 : q x
    · simp
    · simp; omega
    · simp; omega
    · exact (hx e1 e2).elim
theorem cnt_split {α : Type} (p q : α → Bool) (l : List α) : l.countP p = l.countP (fun x => p x && q x) + l.countP (fun x => p x && !q x) := by
  rw [← cnt_or (l := l)]
  · apply List.countP_congr
    intro x _
    cases p x <;> cases q x <;> simp
  · intro x _ h1 h2
    cases e1 : p x <;> cases e2 : q x <;> rw [e1, e2] at h1 h2 <;> simp at h1 h2
theorem cnt_le {α : Type} {p q : α → Bool} {l : List α} (h : ∀ x ∈ l, p x = true → q x = true) : l.countP p ≤ l.countP q := List.countP_mono_left h
theorem cnt_levels {α : Type} (Q : α → Bool) (A : Nat → α → Bool) (l : List α) (hd : ∀ x ∈ l, ∀ i j, A i x = true → A j x = true → i = j) : ∀ c, ((List.range c).map fun L => l.countP fun x => Q x && A L x).sum = l.countP fun x => Q x && (List.range c).any fun L => A L x
  | 0 => by
    show 0 = _
    symm
    refine List.countP_eq_zero.mpr fun x _ => ?_
    simp
  | c + 1 => by
    rw [List.range_succ, List.map_append, List.sum_append, cnt_levels Q A l hd c]
    simp only [List.map_cons, List.map_nil, List.sum_cons, List.sum_nil, Nat.add_zero]
    rw [← cnt_or]
    · apply List.countP_congr
      intro x _
      rw [List.any_append]
      cases Q x <;> simp
    · intro x hx h1 h2
      have h1 := (Bool.and_eq_true _ _ ▸ h1 : Q x = true ∧ (List.range c).any (fun L => A L x) = true).2
      have h2 := (Bool.and_eq_true _ _ ▸ h2 : Q x = true ∧ A c x = true).2
      obtain ⟨L, hL, h3⟩ := List.any_eq_true.mp h1
      have := hd x hx L c h3 h2
      have := List.mem_range.mp hL
      omega
theorem sum_ge (k : Nat) : ∀ (l : List Nat) (f : Nat → Nat), (∀ x ∈ l, k ≤ f x) → l.length * k ≤ (l.map f).sum
  | [], _, _ => by simp
  | x :: l, f, h => by
    have := sum_ge k l f fun y hy => h y (List.mem_cons_of_mem _ hy)
    have := h x List.mem_cons_self
    rw [List.length_cons, List.map_cons, List.sum_cons, Nat.succ_mul]
    omega
theorem sum_le (k : Nat) : ∀ (l : List Nat) (f : Nat → Nat), (∀ x ∈ l, f x ≤ k) → (l.map f).sum ≤ l.length * k
  | [], _, _ => by simp
  | x :: l, f, h => by
    have := sum_le k l f fun y hy => h y (List.mem_cons_of_mem _ hy)
    have := h x List.mem_cons_self
    rw [List.length_cons, List.map_cons, List.sum_cons, Nat.succ_mul]
    omega
theorem flat_ge (k : Nat) (S : Nat → Bool) : ∀ (C : List (List Nat)), (∀ c ∈ C, k ≤ c.countP S) → C.length * k ≤ C.flatten.countP S
  | [], _ => by simp
  | c :: C, h => by
    have := flat_ge k S C fun y hy => h y (List.mem_cons_of_mem _ hy)
    have := h c List.mem_cons_self
    rw [List.length_cons, List.flatten_cons, List.countP_append, Nat.succ_mul]
    omega
theorem flat_le (k : Nat) (S : Nat → Bool) : ∀ (C : List (List Nat)), (∀ c ∈ C, c.countP S ≤ k) → C.flatten.countP S ≤ C.length * k
  | [], _ => by simp
  | c :: C, h => by
    have := flat_le k S C fun y hy => h y (List.mem_cons_of_mem _ hy)
    have := h c List.mem_cons_self
    rw [List.length_cons, List.flatten_cons, List.countP_append, Nat.succ_mul]
    omega
section
variable {bl : Nat → List Nat} {n : Nat} {g g' : Flow} {p : Nat → Int} {c : Nat}
structure Pt (bl : Nat → List Nat) (n : Nat) (g : Flow) (p : Nat → Int) (c : Nat) : Prop where
  fe : Feas (opens bl n g) p
  p0 : p (2 * n) = 0
  pz : p (2 * n + 1) = c
  un : ∀ t, t < n → (2 * t, 2 * t + 1) ∉ g → p (2 * t + 1) = p (2 * t) + 1
def inA (p : Nat → Int) (L t : Nat) : Bool := decide (p (2 * t) < (L : Int) + 1 ∧ (L : Int) + 1 ≤ p (2 * t + 1))
def anyA (p : Nat → Int) (c t : Nat) : Bool := (List.range c).any fun L => inA p L t
theorem flat_arc (fe : Feas (opens bl n g) p) {x y : Nat} (h1 : (x, y, (0 : Int)) ∈ arcs bl n) (h2 : (x, y) ∈ g) : p x = p y := by
  have a := fe (x, y, 0) (mem_opens.mpr (.inl ⟨h1, .inl rfl⟩))
  have b := fe (y, x, 0) (mem_opens.mpr (.inr ⟨h1, h2⟩))
  have a : p x + 0 ≤ p y := a
  have b : p y + 0 ≤ p x := b
  omega
theorem Pt.gated (P : Pt bl n g p c) {t : Nat} (ht : t < n) (h : (2 * t, 2 * t + 1) ∈ g) : p (2 * t + 1) ≤ p (2 * t) + 1 := by
  have b := P.fe (2 * t + 1, 2 * t, -1) (mem_opens.mpr (.inr ⟨by show (2 * t, 2 * t + 1, - -1) ∈ _; exact mem_arcs.mpr ⟨t, ht, .inr (.inl rfl)⟩, h⟩))
  have b : p (2 * t + 1) + -1 ≤ p (2 * t) := b
  omega
theorem Pt.one (P : Pt bl n g p c) {t : Nat} (ht : t < n) : p (2 * t + 1) ≤ p (2 * t) + 1 := by
  by_cases h : (2 * t, 2 * t + 1) ∈ g
  · exact P.gated ht h
  · rw [P.un t ht h]; omega
theorem Pt.disj (P : Pt bl n g p c) {t i j : Nat} (ht : t < n) (h1 : inA p i t = true) (h2 : inA p j t = true) : i = j := by
  have h1 := of_decide_eq_true h1
  have h2 := of_decide_eq_true h2
  have := P.one ht
  omega
theorem Pt.crowd (P : Pt bl n g p c) {x y L : Nat} (hy : y < n) (hx : x ∈ bl y) (h1 : inA p L x = true) (h2 : inA p L y = true) : False := by
  have h1 := of_decide_eq_true h1
  have h2 := of_decide_eq_true h2
  have b := P.fe (2 * x + 1, 2 * y, 0) (mem_opens.mpr (.inl ⟨mem_arcs.mpr ⟨y, hy, .inr (.inr (.inr ⟨x, hx, rfl⟩))⟩, .inl rfl⟩))
  have b : p (2 * x + 1) + 0 ≤ p (2 * y) := b
  omega
theorem Pt.bds (P : Pt bl n g p c) {t : Nat} (ht : t < n) : 0 ≤ p (2 * t) ∧ p (2 * t + 1) ≤ c := by
  have a := P.fe (2 * n, 2 * t, 0) (mem_opens.mpr (.inl ⟨mem_arcs.mpr ⟨t, ht, .inl rfl⟩, .inl rfl⟩))
  have b := P.fe (2 * t + 1, 2 * n + 1, 0) (mem_opens.mpr (.inl ⟨mem_arcs.mpr ⟨t, ht, .inr (.inr (.inl rfl))⟩, .inl rfl⟩))
  have a : p (2 * n) + 0 ≤ p (2 * t) := a
  have b : p (2 * t + 1) + 0 ≤ p (2 * n + 1) := b
  have := P.p0
  have := P.pz
  omega
theorem Pt.cover (P : Pt bl n g p c) {t : Nat} (ht : t < n) (h : (2 * t, 2 * t + 1) ∉ g) : anyA p c t = true := by
  have := P.un t ht h
  have := P.bds ht
  refine List.any_eq_true.mpr ⟨(p (2 * t)).toNat, List.mem_range.mpr (by omega), decide_eq_true ⟨by omega, by omega⟩⟩
theorem Ch.lvl {ch : List Nat} (C : Ch n g ch) (F : FI bl n g) (P : Pt bl n g p c) : ∀ L : Int, 1 ≤ L → L ≤ p (2 * lst ch + 1) → ∃ t ∈ ch, p (2 * t) < L ∧ L ≤ p (2 * t + 1) := by
  induction C with
  | @one x h =>
    intro L l1 l2
    have e := flat_arc P.fe (mem_arcs.mpr ⟨x, in_lt F h, .inl rfl⟩) h
    have := P.p0
    exact ⟨x, List.mem_singleton_self x, by omega, l2⟩
  | @more d x C h ih =>
    intro L l1 l2
    rw [lst_snoc] at l2
    by_cases q : L ≤ p (2 * lst d + 1)
    · obtain ⟨t, ht, r⟩ := ih L l1 q
      exact ⟨t, List.mem_append_left _ ht, r⟩
    · have e := flat_arc P.fe (link F h).2 h
      exact ⟨x, List.mem_append_right _ (List.mem_singleton_self x), by omega, l2⟩
theorem Pt.meet (P : Pt bl n g p c) (F : FI bl n g) (hb : Low bl) {ch : List Nat} (hc : ch ∈ CC n g n) {L : Nat} (hL : L < c) : ∃ t ∈ ch, inA p L t = true := by
  obtain ⟨C, l1, _⟩ := CC_ch n ch hc
  have e := CC_end F hb hc
  have e2 := flat_arc P.fe (mem_arcs.mpr ⟨lst ch, l1, .inr (.inr (.inl rfl))⟩) e
  have := P.pz
  obtain ⟨t, ht, r1, r2⟩ := C.lvl F P ((L : Int) + 1) (by omega) (by omega)
  exact ⟨t, ht, decide_eq_true ⟨r1, r2⟩⟩
theorem CC_lt (F : FI bl n g) (hb : Low bl) {ch : List Nat} (hc : ch ∈ CC n g n) {t : Nat} (ht : t ∈ ch) : t < n ∧ (2 * t, 2 * t + 1) ∈ g := by
  have h : t ∈ (CC n g n).flatten := List.mem_flatten.mpr ⟨ch, hc, ht⟩
  have h := (CC_perm F hb).mem_iff.mp h
  have h := List.mem_filter.mp h
  exact ⟨List.mem_range.mp h.1, of_decide_eq_true h.2⟩
theorem duo (P : Pt bl n g p c) (F : FI bl n g) (hb : Low bl) :
    (∀ S : Nat → Bool, (∀ L, L < c → (List.range n).countP (fun t => S t && inA p L t) ≤ (CC n g n).length) → (List.range n).countP S ≤ val g) ∧
    (∀ S : Nat → Bool, (∀ ch ∈ CC n g n, ch.countP S ≤ c) → (List.range n).countP S + val g ≤ (CC n g n).length * c + n) ∧
    (CC n g n).length * c + n ≤ (List.range n).countP (anyA p c) + val g := by
  have hd : ∀ x ∈ List.range n, ∀ i j, inA p i x = true → inA p j x = true → i = j := fun x hx i j => P.disj (List.mem_range.mp hx)
  have hv : val g = (List.range n).countP (gt g) := val_eq F hb
  refine ⟨fun S hS => ?_, fun S hS => ?_, ?_⟩
  · -- above
    have e1 := cnt_split S (anyA p c) (List.range n)
    have e2 := cnt_levels S (inA p) (List.range n) hd c
    have e3 := cnt_split (gt g) (anyA p c) (List.range n)
    have e4 := cnt_levels (gt g) (inA p) (List.range n) hd c
    have u1 := sum_le (CC n g n).length (List.range c) (fun L => (List.range n).countP fun x => S x && inA p L x) fun L hL => hS L (List.mem_range.mp hL)
    have u2 := sum_ge (CC n g n).length (List.range c) (fun L => (List.range n).countP fun x => gt g x && inA p L x) fun L hL => by
      have := CC_cnt F hb (fun t => inA p L t)
      have e : ((List.range n).countP fun x => gt g x && inA p L x) = (List.range n).countP fun t => inA p L t && gt g t := List.countP_congr fun x _ => by rw [Bool.and_comm]
      show _ ≤ (List.range n).countP fun x => gt g x && inA p L x
      rw [e, ← this]
      have := flat_ge 1 (fun t => inA p L t) (CC n g n) fun ch hc => by
        obtain ⟨t, ht, r⟩ := P.meet F hb hc (List.mem_range.mp hL)
        exact List.countP_pos_iff.mpr ⟨t, ht, r⟩
      omega
    have u3 : (List.range n).countP (fun x => S x && !anyA p c x) ≤ (List.range n).countP (fun x => gt g x && !anyA p c x) := cnt_le fun x hx h => by
      have h := (Bool.and_eq_true _ _ ▸ h : S x = true ∧ (!anyA p c x) = true).2
      rw [h, Bool.and_true]
      by_cases q : (2 * x, 2 * x + 1) ∈ g
      · exact decide_eq_true q
      · rw [P.cover (List.mem_range.mp hx) q] at h; cases h
    change _ = (List.range n).countP fun x => S x && anyA p c x at e2
    change _ = (List.range n).countP fun x => gt g x && anyA p c x at e4
    omega
  · have e1 := cnt_split S (gt g) (List.range n)
    have e2 := CC_cnt F hb S
    have u1 := flat_le c S (CC n g n) hS
    have e3 := cnt_split (fun _ => true) (gt g) (List.range n)
    have e4 : (List.range n).countP (fun _ => true) = n := by rw [List.countP_true, List.length_range]
    have e5 : (List.range n).countP (fun x => true && gt g x) = (List.range n).countP (gt g) := List.countP_congr fun x _ => by rw [Bool.true_and]
    have u3 : (List.range n).countP (fun x => S x && !gt g x) ≤ (List.range n).countP (fun x => true && !gt g x) := cnt_le fun x _ h => by
      rw [Bool.true_and]; exact (Bool.and_eq_true _ _ ▸ h : S x = true ∧ (!gt g x) = true).2
    omega
  · have e1 := cnt_split (anyA p c) (gt g) (List.range n)
    have e2 := CC_cnt F hb (anyA p c)
    have u1 := flat_ge c (anyA p c) (CC n g n) fun ch hc => by
      have e := cnt_levels (fun _ => true) (inA p) ch (fun x hx i j => P.disj (CC_lt F hb hc hx).1) c
      have u := sum_ge 1 (List.range c) (fun L => ch.countP fun x => true && inA p L x) fun L hL => by
        obtain ⟨t, ht, r⟩ := P.meet F hb hc (List.mem_range.mp hL)
        exact List.countP_pos_iff.mpr ⟨t, ht, by rw [r]; rfl⟩
      rw [e, List.length_range] at u
      have : ch.countP (fun x => true && (List.range c).any fun L => inA p L x) = ch.countP (anyA p c) := List.countP_congr fun x _ => by rw [Bool.true_and]; exact Iff.rfl
      omega
    have e3 := cnt_split (fun _ => true) (gt g) (List.range n)
    have e4 : (List.range n).countP (fun _ => true) = n := by rw [List.countP_true, List.length_range]
    have e5 : (List.range n).countP (fun x => true && gt g x) = (List.range n).countP (gt g) := List.countP_congr fun x _ => by rw [Bool.true_and]
    have u3 : (List.range n).countP (fun x => true && !gt g x) ≤ (List.range n).countP (fun x => anyA p c x && !gt g x) := cnt_le fun x hx h => by
      have h : (!gt g x) = true := (Bool.and_eq_true _ _ ▸ h : true = true ∧ (!gt g x) = true).2
      have q : (2 * x, 2 * x + 1) ∉ g := fun z => by rw [show gt g x = true from decide_eq_true z] at h; cases h
      rw [P.cover (List.mem_range.mp hx) q, h]; rfl
    omega
end
end Fl
namespace Fl
section
variable {bl : Nat → List Nat} {n : Nat} {g g' : Flow}
structure Ft (bl : Nat → List Nat) (n : Nat) (g : Flow) (p : Nat → Int) : Prop where
  fe : Feas (opens bl n g) p
  p0 : p (2 * n) = 0
  un : ∀ t, t < n → (2 * t, 2 * t + 1) ∉ g → p (2 * t + 1) = p (2 * t) + 1
def mk0 (M : Mk) : Nat → Int := fun v => (M v).getD 0
theorem all_some {M : Mk} (all : ∀ v, v < 2 * n + 2 → M v ≠ none) {v : Nat} (h : v < 2 * n + 2) : ∃ k, M v = some k := by
  cases q : M v with
  | none => exact absurd q (all v h)
  | some k => exact ⟨k, rfl⟩
theorem own_ft {π : Nat → Int} {M : Mk} {A : Nat → Option Nat} {τ : Nat → Nat} (F : FI bl n g) (hb : Low bl) (W : BW (opens bl n g) (2 * n) π M A τ) (all : ∀ v, v < 2 * n + 2 → M v ≠ none) : Ft bl n g (mk0 M) := by
  refine ⟨fun a ha => ?_, by unfold mk0; rw [W.s0]; rfl, fun t ht hn => ?_⟩
  · have nn : a.1 < 2 * n + 2 := by
      rcases mem_opens.mp ha with ⟨q, _⟩ | ⟨q, _⟩
      · exact (arc_ne hb q).2.1
      · exact (arc_ne hb q).2.2
    obtain ⟨k, hk⟩ := all_some all nn
    obtain ⟨j, h1, h2⟩ := W.fx a ha k hk
    unfold mk0
    rw [hk, h1]; exact h2
  · obtain ⟨m, hm⟩ := all_some all (show 2 * t + 1 < 2 * n + 2 by omega)
    obtain ⟨u, w, k, e1, e2, e3, e4, _⟩ := W.ti (2 * t + 1) m (by omega) hm
    rcases mem_opens.mp e1 with ⟨q, _⟩ | ⟨q, q2⟩
    · obtain ⟨r, hr, hh⟩ := mem_arcs.mp q
      rcases hh with hh | hh | hh | ⟨l, hl, hh⟩ <;> injection hh with b1 b2 <;> injection b2 with b2 b3
      · omega
      · have : r = t := by omega
        subst this
        subst b1
        unfold mk0
        rw [hm, e3, e4, b3]; rfl
      · omega
      · omega
    · exact absurd (F.gate_of_out hb ht q2 rfl) hn
theorem next_ft {π : Nat → Int} {M : Mk} {A : Nat → Option Nat} {τ : Nat → Nat} (F : FI bl n g) (hb : Low bl) (W : BW (opens bl n g) (2 * n) π M A τ) (all : ∀ v, v < 2 * n + 2 → M v ≠ none) (n1 : ∀ p ∈ g', p ∈ g ∨ A p.2 = some p.1) (n2 : ∀ p ∈ g, p ∉ g' → A p.1 = some p.2) : Ft bl n g' (mk0 M) := by
  refine ⟨next_feas F hb W all n1 n2, by unfold mk0; rw [W.s0]; rfl, fun t ht hn => ?_⟩
  by_cases hg : (2 * t, 2 * t + 1) ∈ g
  · have hA := n2 _ hg hn
    have hA : A (2 * t) = some (2 * t + 1) := hA
    obtain ⟨m, hm⟩ := all_some all (show 2 * t < 2 * n + 2 by omega)
    obtain ⟨u, w, k, e1, e2, e3, e4, _⟩ := W.ti (2 * t) m (by omega) hm
    rw [hA] at e2
    cases e2
    have hw : w = -1 := by
      rcases mem_opens.mp e1 with ⟨q, _⟩ | ⟨q, _⟩
      · exact absurd q fun z => no_anti hb (mem_arcs.mpr ⟨t, ht, .inr (.inl rfl)⟩) z
      · have q : (2 * t, 2 * t + 1, -w) ∈ arcs bl n := q
        have a1 := arc_wt q hb
        have a2 := arc_wt (mem_arcs.mpr ⟨t, ht, .inr (.inl rfl)⟩ : (2 * t, 2 * t + 1, (1 : Int)) ∈ arcs bl n) hb
        omega
    unfold mk0
    rw [hm, e3]
    show k = m + 1
    omega
  · exact (own_ft F hb W all).un t ht hg
theorem zero_ft (F : FI bl n g) (hb : Low bl) (hv : val g = n) : Ft bl n g fun _ => 0 := by
  have al : ∀ t, t < n → (2 * t, 2 * t + 1) ∈ g := fun t ht => Classical.byContradiction fun z => by
    rw [val_eq F hb] at hv
    have : (List.range n).countP (fun t => decide ((2 * t, 2 * t + 1) ∈ g)) < (List.range n).length := by
      apply Nat.lt_of_le_of_ne List.countP_le_length
      intro e
      exact z (of_decide_eq_true (List.countP_eq_length.mp e t (List.mem_range.mpr ht)))
    rw [List.length_range] at this
    omega
  refine ⟨fun a ha => ?_, rfl, fun t ht hn => absurd (al t ht) hn⟩
  show (0 : Int) + a.2.2 ≤ 0
  rcases mem_opens.mp ha with ⟨h1, h2⟩ | ⟨h1, h2⟩
  · obtain ⟨t, ht, hh⟩ := mem_arcs.mp h1
    rcases hh with rfl | rfl | rfl | ⟨l, hl, rfl⟩
    · exact Int.le_refl _
    · rcases h2 with h2 | h2
      · have h2 : (1 : Int) = 0 := h2
        omega
      · exact absurd (al t ht) h2
    · exact Int.le_refl _
    · exact Int.le_refl _
  · have := arc_wt h1 hb
    split at this <;> omega
theorem mix {P Q : Nat → Int} (hP : Ft bl n g P) (hQ : Ft bl n g Q) {c : Nat} (h1 : Q (2 * n + 1) ≤ c) (h2 : (c : Int) ≤ P (2 * n + 1)) : Pt bl n g (fun v => max (Q v) (P v - (P (2 * n + 1) - c))) c := by
  refine ⟨fun a ha => ?_, ?_, ?_, fun t ht hn => ?_⟩
  · have a1 := hP.fe a ha
    have a2 := hQ.fe a ha
    show max (Q a.1) (P a.1 - (P (2 * n + 1) - c)) + a.2.2 ≤ max (Q a.2.1) (P a.2.1 - (P (2 * n + 1) - c))
    omega
  · show max (Q (2 * n)) (P (2 * n) - (P (2 * n + 1) - c)) = 0
    rw [hP.p0, hQ.p0]; omega
  · show max (Q (2 * n + 1)) (P (2 * n + 1) - (P (2 * n + 1) - c)) = c
    omega
  · have a1 := hP.un t ht hn
    have a2 := hQ.un t ht hn
    show max (Q (2 * t + 1)) (P (2 * t + 1) - (P (2 * n + 1) - c)) = max (Q (2 * t)) (P (2 * t) - (P (2 * n + 1) - c)) + 1
    omega
def flowAt (T : List (Flow × Mk)) (ge : Flow) (i : Nat) : Flow := ((T ++ [(ge, fun _ => some 0)]).getD i (ge, fun _ => some 0)).1
def markAt (T : List (Flow × Mk)) (ge : Flow) (i : Nat) : Mk := ((T ++ [(ge, fun _ => some 0)]).getD i (ge, fun _ => some 0)).2
structure Sg (bl : Nat → List Nat) (n : Nat) (T : List (Flow × Mk)) (ge : Flow) (j i : Nat) : Prop where
  fi : FI bl n (flowAt T ge i)
  vl : (val (flowAt T ge i) : Int) = (hld T ge).getD i 0
  sr : out (flowAt T ge i) (2 * n) = j + i
  qf : Ft bl n (flowAt T ge i) (mk0 (markAt T ge i))
  qz : mk0 (markAt T ge i) (2 * n + 1) = (difs (hld T ge)).getD i 0
  pf : i ≠ 0 → Ft bl n (flowAt T ge i) (mk0 (markAt T ge (i - 1))) 
theorem run_sg (hb : Low bl) {K : Nat} (KK : 2 * n + 2 < K) {b : Int} {T : List (Flow × Mk)} {ge : Flow} (R : Run bl n K g b T ge) : ∀ j, out g (2 * n) = j → ∀ i, i ≤ T.length → Sg bl n T ge j i := by
  induction R with
  | @done g b F hv =>
    intro j hj i hi
    have : i = 0 := by rw [List.length_nil] at hi; omega
    subst this
    exact ⟨F, rfl, hj, zero_ft F hb hv, rfl, fun z => absurd rfl z⟩
  | @step g g' ge b mz s π τ T F hv hw W all hz e z1 zb vl R ih =>
    intro j hj i hi
    obtain ⟨l, hL⟩ := run_head R
    have ed : difs (hld ((g, s.M) :: T) ge) = mz :: difs (hld T ge) := by
      show difs ((val g : Int) :: hld T ge) = _
      rw [hL]
      show ((val g' : Int) - val g) :: _ = _
      congr 1
      omega
    obtain ⟨g2, e2, F2, _, n1, n2⟩ := grow_ok F hb W all KK hz
    rw [e] at e2
    cases e2
    have os := grow_src F hb W all KK F2 e
    cases i with
    | zero =>
      exact ⟨F, rfl, hj, own_ft F hb W all, by rw [ed]; show (s.M (2 * n + 1)).getD 0 = mz; rw [hz]; rfl, fun z => absurd rfl z⟩
    | succ i =>
      rw [List.length_cons] at hi
      have I := ih (j + 1) (by omega) i (by omega)
      have hf : flowAt ((g, s.M) :: T) ge (i + 1) = flowAt T ge i := rfl
      have hm : markAt ((g, s.M) :: T) ge (i + 1) = markAt T ge i := rfl
      refine ⟨I.fi, I.vl, by rw [hf, I.sr]; omega, I.qf, by rw [ed]; exact I.qz, fun _ => ?_⟩
      cases i with
      | zero =>
        have h0 : flowAt ((g, s.M) :: T) ge (0 + 1) = g' := by
          show flowAt T ge 0 = g'
          cases R with
          | done => rfl
          | step => rfl
        rw [h0]
        exact next_ft F hb W all n1 n2
      | succ i => exact I.pf (by omega)
end
end Fl
namespace Fl
open Com
def Crd (bl : Nat → List Nat) (n : Nat) (X : Nat → Bool) : Prop := ∀ x y, x < n → y < n → X x = true → X y = true → x ∉ bl y
def Cha (bl : Nat → List Nat) (n : Nat) (X : Nat → Bool) : Prop := ∀ x y, x < y → y < n → X x = true → X y = true → x ∈ bl y
def cn (n : Nat) (X : Nat → Bool) : Nat := (List.range n).countP X
def Sub (n : Nat) (X S : Nat → Bool) : Prop := ∀ t, t < n → X t = true → S t = true
theorem cn_le (n : Nat) (X : Nat → Bool) : cn n X ≤ n := by
  have := List.countP_le_length (p := X) (l := List.range n)
  rwa [List.length_range] at this
theorem pre_difs : ∀ (h : List Int) (k : Nat), k < h.length → pre (difs h) k = h.getD k 0 - h.getD 0 0
  | [], k, hk => by simp at hk
  | [a], k, hk => by
    have : k = 0 := by simp at hk; omega
    subst this
    rw [pre_zero]; show (0 : Int) = a - a; omega
  | a :: b :: l, 0, _ => by rw [pre_zero]; show (0 : Int) = a - a; omega
  | a :: b :: l, k + 1, hk => by
    show pre ((b - a) :: difs (b :: l)) (k + 1) = _
    rw [pre_cons, pre_difs (b :: l) k (by simp at hk ⊢; omega)]
    show b - a + ((b :: l).getD k 0 - b) = (b :: l).getD k 0 - a
    omega
theorem min_cnt (c : Nat) (c1 : 1 ≤ c) : ∀ (a : List Int), a.Pairwise (· ≥ ·) → (a.map fun x => min x (c : Int)).sum = (cnt a c : Int) * c + (a.sum - pre a (cnt a c))
  | [], _ => by rw [show cnt [] (c : Int) = 0 from rfl, pre_zero]; simp
  | x :: xs, h => by
    have h := List.pairwise_cons.mp h
    have ih := min_cnt c c1 xs h.2
    rw [List.map_cons, List.sum_cons, cnt_cons, List.sum_cons]
    by_cases q : (c : Int) ≤ x
    · rw [if_pos q, Nat.add_comm 1, pre_cons, ih, show ((cnt xs (c : Int) + 1 : Nat) : Int) * c = (cnt xs (c : Int) : Int) * c + c by rw [Int.natCast_add, Int.add_mul]; simp]
      omega
    · have z : cnt xs (c : Int) = 0 := cnt_zero fun y hy => by have := h.1 y hy; omega
      rw [if_neg q, z, pre_zero]
      rw [z, pre_zero] at ih
      rw [ih]
      simp
      omega
theorem nodup_cnt {ch : List Nat} (nd : ch.Nodup) {n : Nat} (hl : ∀ x ∈ ch, x < n) (S : Nat → Bool) : cn n (fun t => S t && decide (t ∈ ch)) = ch.countP S := by
  unfold cn
  rw [List.countP_eq_length_filter, List.countP_eq_length_filter]
  apply List.Perm.length_eq
  refine (List.perm_ext_iff_of_nodup (List.nodup_range.filter _) (nd.filter _)).mpr fun x => ?_
  rw [List.mem_filter, List.mem_filter, List.mem_range, Bool.and_eq_true, decide_eq_true_iff]
  exact ⟨fun h => ⟨h.2.2, h.2.1⟩, fun h => ⟨hl x h.1, h.2, h.1⟩⟩
section
variable {bl : Nat → List Nat} {n : Nat} {g : Flow} {T : List (Flow × Mk)} {ge : Flow} {K : Nat}
theorem ch_nodup (hb : Low bl) {ch : List Nat} (h : ch.Pairwise fun x y => x ∈ bl y) : ch.Nodup := h.imp fun {a b} q z => by
  have := hb _ _ q
  omega
theorem ch_crd (hb : Low bl) {X : Nat → Bool} (hX : Crd bl n X) : ∀ {ch : List Nat}, ch.Pairwise (fun x y => x ∈ bl y) → (∀ x ∈ ch, x < n) → ch.countP X ≤ 1
  | [], _, _ => by simp
  | a :: ch, h, hl => by
    have h := List.pairwise_cons.mp h
    have ih := ch_crd hb hX h.2 fun x hx => hl x (List.mem_cons_of_mem _ hx)
    rw [List.countP_cons]
    by_cases q : X a = true
    · have : ch.countP X = 0 := List.countP_eq_zero.mpr fun y hy hy2 => hX a y (hl a List.mem_cons_self) (hl y (List.mem_cons_of_mem _ hy)) q hy2 (h.1 y hy)
      rw [this]; split <;> omega
    · rw [if_neg q]; omega
structure Bnds (bl : Nat → List Nat) (n : Nat) (T : List (Flow × Mk)) (ge : Flow) : Prop where
  hb : Low bl
  tr : Trans bl
  sg : ∀ i, i ≤ T.length → Sg bl n T ge 0 i
  sh : IsShp (difs (hld T ge))
  sm : (difs (hld T ge)).sum = n
theorem run_bnds (hb : Low bl) (tr : Trans bl) (KK : 2 * n + 2 < K) (R : Run bl n K [] (n : Int) T ge) : Bnds bl n T ge := by
  obtain ⟨d1, d2, d3⟩ := run_difs R
  exact ⟨hb, tr, run_sg hb KK R 0 rfl, ⟨d2, fun x hx => (d1 x hx).1⟩, by rw [d3]; show (n : Int) - (0 : Nat) = _; omega⟩
theorem Bnds.len (Z : Bnds bl n T ge) : (difs (hld T ge)).length = T.length := by rw [difs_len, hld_len]; rfl
theorem Bnds.pre (Z : Bnds bl n T ge) {k : Nat} (hk : k ≤ T.length) : Com.pre (difs (hld T ge)) k = val (flowAt T ge k) := by
  rw [pre_difs _ _ (by rw [hld_len]; omega), (Z.sg k hk).vl]
  have e := (Z.sg 0 (Nat.zero_le _)).vl
  have e0 := (Z.sg 0 (Nat.zero_le _)).sr
  have v0 : val (flowAt T ge 0) = 0 := by
    rw [← many_val (Z.sg 0 (Nat.zero_le _)).fi Z.hb, chains_eq]
    have := src_cnt (Z.sg 0 (Nat.zero_le _)).fi
    rw [e0] at this
    rw [List.eq_nil_of_length_eq_zero this]; rfl
  rw [v0] at e
  rw [← e]
  show _ - (0 : Int) = _
  omega
def btw (n : Nat) (T : List (Flow × Mk)) (ge : Flow) (k c : Nat) : Nat → Int := fun v => max (mk0 (markAt T ge k) v) (mk0 (markAt T ge (k - 1)) v - (mk0 (markAt T ge (k - 1)) (2 * n + 1) - c))
theorem Bnds.pt (Z : Bnds bl n T ge) {k c : Nat} (k1 : 1 ≤ k) (hk : k ≤ T.length) (h1 : (difs (hld T ge)).getD k 0 ≤ c) (h2 : (c : Int) ≤ (difs (hld T ge)).getD (k - 1) 0) : Pt bl n (flowAt T ge k) (btw n T ge k c) c :=
  mix ((Z.sg k hk).pf (by omega)) (Z.sg k hk).qf (by rw [(Z.sg k hk).qz]; exact h1) (by rw [(Z.sg (k - 1) (by omega)).qz]; exact h2)
theorem Bnds.chs (Z : Bnds bl n T ge) {k : Nat} (hk : k ≤ T.length) : (CC n (flowAt T ge k) n).length = k := by
  rw [src_cnt (Z.sg k hk).fi, (Z.sg k hk).sr]; omega
theorem Bnds.down (Z : Bnds bl n T ge) {k : Nat} (k1 : 1 ≤ k) (hk : k ≤ T.length) : (difs (hld T ge)).getD k 0 ≤ (difs (hld T ge)).getD (k - 1) 0 := by
  have hl := Z.len
  by_cases q : k < T.length
  · have := List.pairwise_iff_getElem.mp Z.sh.1 (k - 1) k (by omega) (by omega) (by omega)
    rw [List.getD_eq_getElem?_getD, List.getD_eq_getElem?_getD, List.getElem?_eq_getElem (by omega), List.getElem?_eq_getElem (by omega)]
    exact this
  · rw [getD_out (by omega)]
    exact Z.sh.getD_nn _
theorem Bnds.top1 (Z : Bnds bl n T ge) (k : Nat) (S : Nat → Bool) (hS : ∀ X, Sub n X S → Crd bl n X → cn n X ≤ k) : (cn n S : Int) ≤ Com.pre (difs (hld T ge)) k := by
  by_cases k0 : k = 0
  · subst k0
    rw [pre_zero]
    have : cn n S = 0 := List.countP_eq_zero.mpr fun t ht hst => by
      have ht := List.mem_range.mp ht
      have h1 := hS (fun x => decide (x = t)) (fun x _ hx => by rw [of_decide_eq_true hx]; exact hst) (fun x y _ _ hx hy hxy => by
        have := Z.hb _ _ hxy
        have := of_decide_eq_true hx
        have := of_decide_eq_true hy
        omega)
      have h2 : 0 < cn n (fun x => decide (x = t)) := List.countP_pos_iff.mpr ⟨t, List.mem_range.mpr ht, decide_eq_true rfl⟩
      omega
    omega
  by_cases q : k ≤ T.length
  · rw [Z.pre q]
    have nn := Z.sh.getD_nn (k - 1)
    have P := Z.pt (c := ((difs (hld T ge)).getD (k - 1) 0).toNat) (by omega) q (by have := Z.down (by omega) q; omega) (by omega)
    have D := (duo P (Z.sg k q).fi Z.hb).1 S fun L hL => by
      rw [Z.chs q]
      refine hS _ (fun t _ h => (Bool.and_eq_true _ _ ▸ h : S t = true ∧ _).1) fun x y hx hy h1 h2 hxy => ?_
      exact P.crowd hy hxy (Bool.and_eq_true _ _ ▸ h1 : S x = true ∧ _).2 (Bool.and_eq_true _ _ ▸ h2 : S y = true ∧ _).2
    have D : cn n S ≤ val (flowAt T ge k) := D
    omega
  · rw [pre_full (by rw [Z.len]; omega), Z.sm]
    have := cn_le n S
    omega
theorem Bnds.at1 (Z : Bnds bl n T ge) (k : Nat) : ∃ S, (cn n S : Int) = Com.pre (difs (hld T ge)) k ∧ ∀ X, Sub n X S → Crd bl n X → cn n X ≤ k := by
  by_cases q : k ≤ T.length
  · refine ⟨gt (flowAt T ge k), by rw [Z.pre q, val_eq (Z.sg k q).fi Z.hb]; rfl, fun X hX hc => ?_⟩
    have e := CC_cnt (Z.sg k q).fi Z.hb X
    have e2 : cn n X = (List.range n).countP fun t => X t && gt (flowAt T ge k) t := List.countP_congr fun t ht => by
      rw [Bool.and_eq_true]
      exact ⟨fun h => ⟨h, hX t (List.mem_range.mp ht) h⟩, fun h => h.1⟩
    rw [e2, ← e]
    have := flat_le 1 X (CC n (flowAt T ge k) n) fun ch hch => ch_crd Z.hb hc ((CC_ch n ch hch).1.chain (Z.sg k q).fi Z.tr).1 fun x hx => (CC_lt (Z.sg k q).fi Z.hb hch hx).1
    rw [Z.chs q] at this
    omega
  · refine ⟨gt (flowAt T ge T.length), ?_, fun X hX hc => ?_⟩
    · have : (cn n (gt (flowAt T ge T.length)) : Int) = Com.pre (difs (hld T ge)) T.length := by rw [Z.pre (Nat.le_refl _), val_eq (Z.sg _ (Nat.le_refl _)).fi Z.hb]; rfl
      rw [this, pre_full (by rw [Z.len]; omega), pre_full (by rw [Z.len]; omega)]
    · have e := CC_cnt (Z.sg _ (Nat.le_refl _)).fi Z.hb X
      have e2 : cn n X = (List.range n).countP fun t => X t && gt (flowAt T ge T.length) t := List.countP_congr fun t ht => by
        rw [Bool.and_eq_true]
        exact ⟨fun h => ⟨h, hX t (List.mem_range.mp ht) h⟩, fun h => h.1⟩
      rw [e2, ← e]
      have := flat_le 1 X (CC n (flowAt T ge T.length) n) fun ch hch => ch_crd Z.hb hc ((CC_ch n ch hch).1.chain (Z.sg _ (Nat.le_refl _)).fi Z.tr).1 fun x hx => (CC_lt (Z.sg _ (Nat.le_refl _)).fi Z.hb hch hx).1
      rw [Z.chs (Nat.le_refl _)] at this
      omega
theorem Bnds.stg (Z : Bnds bl n T ge) {c : Nat} (c1 : 1 ≤ c) (h : (c : Int) ≤ topI (difs (hld T ge))) : ∃ k, k = cnt (difs (hld T ge)) c ∧ 1 ≤ k ∧ k ≤ T.length ∧ (difs (hld T ge)).getD k 0 ≤ c ∧ (c : Int) ≤ (difs (hld T ge)).getD (k - 1) 0 ∧ Com.pre (cols (difs (hld T ge))) c = (k : Int) * c + (n - val (flowAt T ge k)) := by
  have ne : difs (hld T ge) ≠ [] := fun z => by rw [z, topI_nil] at h; omega
  have k1 := cnt_pos (topI_mem ne) h
  have k2 := Com.cnt_le (difs (hld T ge)) c
  rw [Z.len] at k2
  have g1 := galois Z.sh.1 (cnt (difs (hld T ge)) c - 1) c (by omega)
  have g2 := galois Z.sh.1 (cnt (difs (hld T ge)) c) c (by omega)
  refine ⟨_, rfl, k1, k2, ?_, g1.mp (by omega), ?_⟩
  · have : ¬ (c : Int) ≤ (difs (hld T ge)).getD (cnt (difs (hld T ge)) c) 0 := fun z => by have := g2.mpr z; omega
    omega
  · rw [cols_pre Z.sh.nn, min_cnt c c1 _ Z.sh.1, Z.sm, Z.pre k2]
theorem Bnds.top2 (Z : Bnds bl n T ge) (c : Nat) (S : Nat → Bool) (hS : ∀ X, Sub n X S → Cha bl n X → cn n X ≤ c) : (cn n S : Int) ≤ Com.pre (cols (difs (hld T ge))) c := by
  by_cases c0 : c = 0
  · subst c0
    rw [pre_zero]
    have : cn n S = 0 := List.countP_eq_zero.mpr fun t ht hst => by
      have ht := List.mem_range.mp ht
      have h1 := hS (fun x => decide (x = t)) (fun x _ hx => by rw [of_decide_eq_true hx]; exact hst) (fun x y hxy _ hx hy => by
        have := of_decide_eq_true hx
        have := of_decide_eq_true hy
        omega)
      have h2 : 0 < cn n (fun x => decide (x = t)) := List.countP_pos_iff.mpr ⟨t, List.mem_range.mpr ht, decide_eq_true rfl⟩
      omega
    omega
  by_cases q : (c : Int) ≤ topI (difs (hld T ge))
  · obtain ⟨k, _, k1, k2, h1, h2, h3⟩ := Z.stg (by omega) q
    have P := Z.pt k1 k2 h1 h2
    have D := (duo P (Z.sg k k2).fi Z.hb).2.1 S fun ch hch => by
      have cc := ((CC_ch n ch hch).1.chain (Z.sg k k2).fi Z.tr).1
      have lt : ∀ x ∈ ch, x < n := fun x hx => (CC_lt (Z.sg k k2).fi Z.hb hch hx).1
      rw [← nodup_cnt (ch_nodup Z.hb cc) lt S]
      refine hS _ (fun t _ h => (Bool.and_eq_true _ _ ▸ h : S t = true ∧ _).1) fun x y hxy hy h1 h2 => ?_
      have m1 : x ∈ ch := of_decide_eq_true (Bool.and_eq_true _ _ ▸ h1 : S x = true ∧ _).2
      have m2 : y ∈ ch := of_decide_eq_true (Bool.and_eq_true _ _ ▸ h2 : S y = true ∧ _).2
      obtain ⟨i, hi, e1⟩ := List.mem_iff_getElem.mp m1
      obtain ⟨j, hj, e2⟩ := List.mem_iff_getElem.mp m2
      have pw := List.pairwise_iff_getElem.mp cc
      rcases Nat.lt_trichotomy i j with r | r | r
      · have := pw i j hi hj r; rw [e1, e2] at this; exact this
      · subst r; omega
      · have := pw j i hj hi r
        rw [e1, e2] at this
        have := Z.hb _ _ this
        omega
    rw [Z.chs k2] at D
    have D : cn n S + val (flowAt T ge k) ≤ k * c + n := D
    rw [h3]
    have e : ((k * c : Nat) : Int) = (k : Int) * c := Int.natCast_mul ..
    omega
  · have := cn_le n S
    have e : Com.pre (cols (difs (hld T ge))) c = n := by
      rw [pre_full (by rw [cols_len]; omega), cols_sum Z.sh.nn, Z.sm]
    omega
end
end Fl
namespace Fl
open Com
theorem grw_rem {A : Nat → Option Nat} {τ : Nat → Nat} {N : Nat} (hA : ∀ v u, v < N → A v = some u → u < N ∧ τ u < τ v) : ∀ (k v : Nat) (h h' : Flow), grw A k v h = some h' → v < N → ∀ p ∈ h, p ∉ h' → τ p.1 ≤ τ v
  | 0, _, _, _, e, _, _, _, _ => by cases e
  | k + 1, v, h, h', e, hv, p, hp, hn => by
    unfold grw at e
    cases q : A v with
    | none => rw [q] at e; cases e; exact absurd hp hn
    | some u =>
      rw [q] at e
      obtain ⟨u1, u2⟩ := hA v u hv q
      dsimp only at e
      by_cases hin : (v, u) ∈ h
      · rw [if_pos hin] at e
        by_cases z : p = (v, u)
        · rw [z]; exact Nat.le_refl _
        · have := grw_rem hA k u _ h' e u1 p (List.mem_filter.mpr ⟨hp, decide_eq_true z⟩) hn
          omega
      · rw [if_neg hin] at e
        split at e
        · have := grw_rem hA k u _ h' e u1 p (List.mem_append_left _ hp) hn
          omega
        · cases e
section
variable {bl : Nat → List Nat} {n : Nat} {g g' : Flow}
theorem keep_gate {π : Nat → Int} {M : Mk} {A : Nat → Option Nat} {τ : Nat → Nat} (F : FI bl n g) (hb : Low bl) (W : BW (opens bl n g) (2 * n) π M A τ) (all : ∀ v, v < 2 * n + 2 → M v ≠ none) {k : Nat} (e : grw A k (2 * n + 1) g = some g') (n2 : ∀ p ∈ g, p ∉ g' → A p.1 = some p.2) {x : Nat} (xn : x < n) (top : ∀ t, t < n → x ∉ bl t) (hx : (2 * x, 2 * x + 1) ∈ g) : (2 * x, 2 * x + 1) ∈ g' := by
  apply Classical.byContradiction
  intro hn
  have tight : ∀ v u, v < 2 * n + 2 → A v = some u → u < 2 * n + 2 ∧ τ u < τ v := fun v u hv hu => by
    have nS : v ≠ 2 * n := fun z => by rw [z, W.sa] at hu; cases hu
    obtain ⟨m, hm⟩ := all_some all hv
    obtain ⟨u', w, k', e1, e2, _, _, e5⟩ := W.ti v m nS hm
    rw [hu] at e2; cases e2
    refine ⟨?_, e5⟩
    rcases mem_opens.mp e1 with ⟨q, _⟩ | ⟨q, _⟩
    · exact (arc_ne hb q).2.1
    · exact (arc_ne hb q).2.2
  have t1 := grw_rem tight k (2 * n + 1) g g' e (by omega) _ hx hn
  have t1 : τ (2 * x) ≤ τ (2 * n + 1) := t1
  have a1 : A (2 * x) = some (2 * x + 1) := n2 _ hx hn
  have t2 := (tight _ _ (by omega) a1).2
  obtain ⟨m, hm⟩ := all_some all (show 2 * x + 1 < 2 * n + 2 by omega)
  obtain ⟨u, w, k', e1, e2, _, _, e5⟩ := W.ti (2 * x + 1) m (by omega) hm
  rcases mem_opens.mp e1 with ⟨q, q2⟩ | ⟨q, q2⟩
  · obtain ⟨t, ht, hh⟩ := mem_arcs.mp q
    rcases hh with hh | hh | hh | ⟨l, hl, hh⟩ <;> injection hh with b1 b2 <;> injection b2 with b2 b3
    · omega
    · have : t = x := by omega
      subst this
      rcases q2 with q2 | q2
      · rw [show ((u, 2 * t + 1, w) : Arc).2.2 = w from rfl, b3] at q2; omega
      · rw [show ((u, 2 * t + 1, w) : Arc).1 = u from rfl, b1] at q2; exact q2 hx
    · omega
    · omega
  · obtain ⟨t, ht, hh⟩ := mem_arcs.mp q
    rcases hh with hh | hh | hh | ⟨l, hl, hh⟩ <;> injection hh with b1 b2 <;> injection b2 with b2 b3
    · have b1 : 2 * x + 1 = 2 * n := b1
      omega
    · have b1 : 2 * x + 1 = 2 * t := b1
      omega
    · have b2 : u = 2 * n + 1 := b2
      rw [b2] at e5
      omega
    · have b1 : 2 * x + 1 = 2 * l + 1 := b1
      have : l = x := by omega
      rw [this] at hl
      exact top t ht hl
theorem run_keep (hb : Low bl) {K : Nat} (KK : 2 * n + 2 < K) {b : Int} {T : List (Flow × Mk)} {ge : Flow} (R : Run bl n K g b T ge) {x : Nat} (xn : x < n) (top : ∀ t, t < n → x ∉ bl t) : ∀ i, i < T.length → (2 * x, 2 * x + 1) ∈ flowAt T ge i → (2 * x, 2 * x + 1) ∈ flowAt T ge (i + 1) := by
  induction R with
  | done F hv => intro i hi; exact absurd hi (Nat.not_lt_zero _)
  | @step g g' ge b mz s π τ T F hv hw W all hz e z1 zb vl R ih =>
    intro i hi hx
    cases i with
    | zero =>
      obtain ⟨g2, e2, F2, _, n1, n2⟩ := grow_ok F hb W all KK hz
      rw [e] at e2
      cases e2
      have h0 : flowAt ((g, s.M) :: T) ge (0 + 1) = g' := by
        show flowAt T ge 0 = g'
        cases R with
        | done => rfl
        | step => rfl
      rw [h0]
      exact keep_gate F hb W all e n2 xn top hx
    | succ i =>
      rw [List.length_cons] at hi
      exact ih i (by omega) hx
theorem run_mono (hb : Low bl) {K : Nat} (KK : 2 * n + 2 < K) {b : Int} {T : List (Flow × Mk)} {ge : Flow} (R : Run bl n K g b T ge) {x : Nat} (xn : x < n) (top : ∀ t, t < n → x ∉ bl t) : ∀ d i, i + d ≤ T.length → (2 * x, 2 * x + 1) ∈ flowAt T ge i → (2 * x, 2 * x + 1) ∈ flowAt T ge (i + d)
  | 0, i, _, h => h
  | d + 1, i, hi, h => run_keep hb KK R xn top (i + d) (by omega) (run_mono hb KK R xn top d i (by omega) h)
end
def db (l : List Nat) : List Nat := l.flatMap fun y => [2 * y, 2 * y + 1]
theorem mem_db {l : List Nat} {a : Nat} : a ∈ db l ↔ a / 2 ∈ l := by
  unfold db
  rw [List.mem_flatMap]
  constructor
  · rintro ⟨y, hy, h⟩
    have : a / 2 = y := by
      rcases List.mem_cons.mp h with h | h
      · omega
      · have := List.mem_singleton.mp h; omega
    rw [this]; exact hy
  · intro h
    refine ⟨_, h, ?_⟩
    by_cases q : a % 2 = 0
    · exact List.mem_cons.mpr (.inl (by omega))
    · exact List.mem_cons.mpr (.inr (List.mem_singleton.mpr (by omega)))
def bl2 (bl : Nat → List Nat) (s : Nat) : List Nat := (if s % 2 = 1 then [s - 1] else []) ++ db (bl (s / 2))
theorem mem_bl2 {bl : Nat → List Nat} {a s : Nat} : a ∈ bl2 bl s ↔ (s % 2 = 1 ∧ a = s - 1) ∨ a / 2 ∈ bl (s / 2) := by
  unfold bl2
  rw [List.mem_append, mem_db]
  by_cases q : s % 2 = 1
  · rw [if_pos q, List.mem_singleton]
    exact ⟨fun h => h.imp (fun z => ⟨q, z⟩) id, fun h => h.imp (fun z => z.2) id⟩
  · rw [if_neg q]
    exact ⟨fun h => h.elim (fun z => nomatch z) .inr, fun h => h.elim (fun z => absurd z.1 q) .inr⟩
theorem low2 {bl : Nat → List Nat} (hb : Low bl) : Low (bl2 bl) := fun t l hl => by
  rcases mem_bl2.mp hl with ⟨h1, h2⟩ | h
  · omega
  · have := hb _ _ h; omega
theorem trans2 {bl : Nat → List Nat} (tr : Trans bl) : Trans (bl2 bl) := fun x y z hx hy => by
  rcases mem_bl2.mp hx with ⟨h1, h2⟩ | h <;> rcases mem_bl2.mp hy with ⟨k1, k2⟩ | k
  · omega
  · have : x / 2 = y / 2 := by omega
    exact mem_bl2.mpr (.inr (by rw [this]; exact k))
  · have : y / 2 = z / 2 := by omega
    exact mem_bl2.mpr (.inr (by rw [← this]; exact h))
  · exact mem_bl2.mpr (.inr (tr _ _ _ h k))
def b1 (b : Bool) : Nat := if b = true then 1 else 0
theorem cn_succ (n : Nat) (S : Nat → Bool) : cn (n + 1) S = cn n S + b1 (S n) := by
  unfold cn b1
  rw [List.range_succ, List.countP_append, List.countP_singleton]
theorem cn_two_ge (Y : Nat → Bool) (S : Nat → Bool) (a : Nat) : ∀ n, (∀ t, t < n → a * b1 (S t) ≤ b1 (Y (2 * t)) + b1 (Y (2 * t + 1))) → a * cn n S ≤ cn (2 * n) Y
  | 0, _ => by simp [cn]
  | n + 1, h => by
    have ih := cn_two_ge Y S a n fun t ht => h t (by omega)
    have e : 2 * (n + 1) = 2 * n + 1 + 1 := by omega
    rw [e, cn_succ, cn_succ, cn_succ, Nat.mul_add]
    have := h n (by omega)
    omega
theorem cn_two_le (Y : Nat → Bool) (S : Nat → Bool) (a : Nat) : ∀ n, (∀ t, t < n → b1 (Y (2 * t)) + b1 (Y (2 * t + 1)) ≤ a * b1 (S t)) → cn (2 * n) Y ≤ a * cn n S
  | 0, _ => by simp [cn]
  | n + 1, h => by
    have ih := cn_two_le Y S a n fun t ht => h t (by omega)
    have e : 2 * (n + 1) = 2 * n + 1 + 1 := by omega
    rw [e, cn_succ, cn_succ, cn_succ, Nat.mul_add]
    have := h n (by omega)
    omega
theorem b1_le (b : Bool) : b1 b ≤ 1 := by unfold b1; split <;> omega
theorem b1_t : b1 true = 1 := rfl
theorem b1_f : b1 false = 0 := rfl
section
variable {bl bl' : Nat → List Nat} {n : Nat} {T T' T2 : List (Flow × Mk)} {ge ge' ge2 : Flow}
def Le (bl : Nat → List Nat) (n : Nat) (S : Nat → Bool) (k : Nat) : Prop := ∀ X, Sub n X S → Crd bl n X → cn n X ≤ k
theorem le_congr (h : ∀ t, t < n → bl' t = bl t) {S : Nat → Bool} {k : Nat} : Le bl' n S k ↔ Le bl n S k := by
  have e : ∀ X, Crd bl' n X ↔ Crd bl n X := fun X => ⟨fun H x y hx hy h1 h2 hxy => H x y hx hy h1 h2 (by rw [h y hy]; exact hxy), fun H x y hx hy h1 h2 hxy => H x y hx hy h1 h2 (by rw [← h y hy]; exact hxy)⟩
  exact ⟨fun H X hX hc => H X hX ((e X).mpr hc), fun H X hX hc => H X hX ((e X).mp hc)⟩
theorem le_less {S : Nat → Bool} {k : Nat} (h : Le bl (n + 1) S k) : Le bl n S k := fun X hX hc => by
  have := h (fun t => X t && decide (t < n)) (fun t _ ht => by
    have ht := (Bool.and_eq_true _ _ ▸ ht : _ ∧ _)
    exact hX t (of_decide_eq_true ht.2) ht.1) fun x y _ _ h1 h2 hxy => by
      have h1 := (Bool.and_eq_true _ _ ▸ h1 : _ ∧ _)
      have h2 := (Bool.and_eq_true _ _ ▸ h2 : _ ∧ _)
      exact hc x y (of_decide_eq_true h1.2) (of_decide_eq_true h2.2) h1.1 h2.1 hxy
  rw [cn_succ] at this
  have e : cn n (fun t => X t && decide (t < n)) = cn n X := List.countP_congr fun t ht => by
    rw [decide_eq_true (List.mem_range.mp ht), Bool.and_true]
  omega
theorem le_more {S : Nat → Bool} {k : Nat} (h : Le bl n S k) (hs : S n = false) : Le bl (n + 1) S k := fun X hX hc => by
  have := h X (fun t ht => hX t (by omega)) fun x y hx hy => hc x y (by omega) (by omega)
  rw [cn_succ]
  have : X n = false := by
    cases q : X n with
    | false => rfl
    | true => have := hX n (by omega) q; rw [hs] at this; cases this
  rw [this, b1_f]; omega
theorem le_up (hb : Low bl) {S : Nat → Bool} {k : Nat} (h : Le bl (n + 1) S k) : Le (bl2 bl) (2 * n + 1) (fun s => S (s / 2)) k := fun X hX hc => by
  have H := h (fun t => X (2 * t) || (X (2 * t + 1) && decide (t < n))) (fun t ht hx => by
    rcases Bool.or_eq_true _ _ ▸ hx with q | q
    · have := hX (2 * t) (by omega) q
      have this : S (2 * t / 2) = true := this
      rwa [show 2 * t / 2 = t by omega] at this
    · have q := (Bool.and_eq_true _ _ ▸ q : _ ∧ _)
      have := of_decide_eq_true q.2
      have this : S ((2 * t + 1) / 2) = true := hX (2 * t + 1) (by omega) q.1
      rwa [show (2 * t + 1) / 2 = t by omega] at this) fun x y hx hy h1 h2 hxy => by
      have pick : ∀ t, t < n + 1 → (X (2 * t) || (X (2 * t + 1) && decide (t < n))) = true → ∃ s, s < 2 * n + 1 ∧ s / 2 = t ∧ X s = true := fun t ht q => by
        rcases Bool.or_eq_true _ _ ▸ q with q | q
        · exact ⟨2 * t, by omega, by omega, q⟩
        · have q := (Bool.and_eq_true _ _ ▸ q : _ ∧ _)
          have := of_decide_eq_true q.2
          exact ⟨2 * t + 1, by omega, by omega, q.1⟩
      obtain ⟨s, s1, s2, s3⟩ := pick x hx h1
      obtain ⟨r, r1, r2, r3⟩ := pick y hy h2
      exact hc s r s1 r1 s3 r3 (mem_bl2.mpr (.inr (by rw [s2, r2]; exact hxy)))
  refine Nat.le_trans ?_ H
  rw [cn_succ, cn_succ]
  have := cn_two_le X (fun t => X (2 * t) || (X (2 * t + 1) && decide (t < n))) 1 n fun t ht => by
    cases q1 : X (2 * t) <;> cases q2 : X (2 * t + 1)
    · simp [b1_f]
    · rw [decide_eq_true ht]; simp [b1_f, b1_t]
    · simp [b1_f, b1_t]
    · exact absurd (mem_bl2.mpr (.inl ⟨by omega, by omega⟩)) (hc (2 * t) (2 * t + 1) (by omega) (by omega) q1 q2)
  have e : b1 (X (2 * n)) ≤ b1 (X (2 * n) || (X (2 * n + 1) && decide (n < n))) := by
    cases X (2 * n)
    · exact Nat.zero_le _
    · simp [b1_t]
  omega
theorem le_dn {S : Nat → Bool} {k : Nat} (h : Le (bl2 bl) (2 * n + 1) S k) : Le bl (n + 1) (fun t => S (2 * t) || (S (2 * t + 1) && decide (t < n))) k := fun X hX hc => by
  have H := h (fun s => X (s / 2) && (S s && (decide (s % 2 = 0) || !S (s - 1)))) (fun s _ hs => ((Bool.and_eq_true _ _ ▸ (Bool.and_eq_true _ _ ▸ hs : _ ∧ _).2 : _ ∧ _).1)) fun x y hx hy h1 h2 hxy => by
      have h1 := (Bool.and_eq_true _ _ ▸ h1 : _ ∧ _)
      have h2 := (Bool.and_eq_true _ _ ▸ h2 : _ ∧ _)
      have h1s := (Bool.and_eq_true _ _ ▸ h1.2 : _ ∧ _)
      have h2s := (Bool.and_eq_true _ _ ▸ h2.2 : _ ∧ _)
      rcases mem_bl2.mp hxy with ⟨q1, q2⟩ | q
      · rcases Bool.or_eq_true _ _ ▸ h2s.2 with z | z
        · have := of_decide_eq_true z; omega
        · rw [← q2, h1s.1] at z; cases z
      · exact hc (x / 2) (y / 2) (by omega) (by omega) h1.1 h2.1 q
  refine Nat.le_trans ?_ H
  rw [cn_succ, cn_succ]
  have := cn_two_ge (fun s => X (s / 2) && (S s && (decide (s % 2 = 0) || !S (s - 1)))) X 1 n fun t ht => by
    cases q : X t with
    | false => simp [b1_f]
    | true =>
      have hs : (S (2 * t) || (S (2 * t + 1) && decide (t < n))) = true := hX t (by omega) q
      rw [decide_eq_true ht, Bool.and_true] at hs
      simp only [show 2 * t / 2 = t by omega, show (2 * t + 1) / 2 = t by omega, q, Bool.true_and, show 2 * t % 2 = 0 by omega, show (2 * t + 1) % 2 = 1 by omega, decide_true, Bool.true_or, Bool.and_true, show 2 * t + 1 - 1 = 2 * t by omega, decide_false, Bool.false_or]
      cases q1 : S (2 * t) <;> cases q2 : S (2 * t + 1) <;> rw [q1, q2] at hs <;> first | (cases hs; done) | simp [b1]
  have e : b1 (X n) ≤ b1 (X (2 * n / 2) && (S (2 * n) && (decide (2 * n % 2 = 0) || !S (2 * n - 1)))) := by
    cases q : X n with
    | false => exact Nat.zero_le _
    | true =>
      have hs : (S (2 * n) || (S (2 * n + 1) && decide (n < n))) = true := hX n (by omega) q
      rw [decide_eq_false (Nat.lt_irrefl n), Bool.and_false, Bool.or_false] at hs
      rw [show 2 * n / 2 = n by omega, q, hs, decide_eq_true (show 2 * n % 2 = 0 by omega)]
      exact Nat.le_refl _
  omega
theorem box_iff (Z : Bnds bl (n + 1) T ge) (Z' : Bnds bl' n T' ge') (h' : ∀ t, t < n → bl' t = bl t) (Z2 : Bnds (bl2 bl) (2 * n + 1) T2 ge2) (k : Nat) (hk : k ≤ T2.length) :
    Com.pre (difs (hld T ge)) k = Com.pre (difs (hld T' ge')) k + if (2 * (2 * n), 2 * (2 * n) + 1) ∈ flowAt T2 ge2 k then 1 else 0 := by
  have vk : (cn (2 * n + 1) (gt (flowAt T2 ge2 k)) : Int) = Com.pre (difs (hld T2 ge2)) k := by rw [Z2.pre hk, val_eq (Z2.sg k hk).fi Z2.hb]; rfl
  have lk : Le (bl2 bl) (2 * n + 1) (gt (flowAt T2 ge2 k)) k := fun X hX hc => by
    have e := CC_cnt (Z2.sg k hk).fi Z2.hb X
    have e2 : cn (2 * n + 1) X = (List.range (2 * n + 1)).countP fun t => X t && gt (flowAt T2 ge2 k) t := List.countP_congr fun t ht => by
      rw [Bool.and_eq_true]
      exact ⟨fun h => ⟨h, hX t (List.mem_range.mp ht) h⟩, fun h => h.1⟩
    rw [e2, ← e]
    have := flat_le 1 X (CC (2 * n + 1) (flowAt T2 ge2 k) (2 * n + 1)) fun ch hch => ch_crd Z2.hb hc ((CC_ch (2 * n + 1) ch hch).1.chain (Z2.sg k hk).fi Z2.tr).1 fun x hx => (CC_lt (Z2.sg k hk).fi Z2.hb hch hx).1
    rw [Z2.chs hk] at this
    omega
  have dn := le_dn lk
  generalize hS2 : gt (flowAt T2 ge2 k) = S2 at vk lk dn
  have hg : S2 (2 * n) = decide ((2 * (2 * n), 2 * (2 * n) + 1) ∈ flowAt T2 ge2 k) := by rw [← hS2]; rfl
  have up2 := cn_two_le S2 (fun t => S2 (2 * t) || (S2 (2 * t + 1) && decide (t < n))) 2 n fun t ht => by
    rw [decide_eq_true ht]
    cases S2 (2 * t) <;> cases S2 (2 * t + 1) <;> simp [b1]
  rw [cn_succ] at vk
  have top := Z.top1 k _ dn
  rw [cn_succ] at top
  have en : (S2 (2 * n) || (S2 (2 * n + 1) && decide (n < n))) = S2 (2 * n) := by rw [decide_eq_false (Nat.lt_irrefl n), Bool.and_false, Bool.or_false]
  rw [en] at top
  have top' := Z'.top1 k _ ((le_congr h').mpr (le_less dn))
  obtain ⟨S', s1, s2⟩ := Z'.at1 k
  have s2 : Le bl n S' k := (le_congr h').mp s2
  have lo' : 2 * cn n S' ≤ cn (2 * n) fun s => (S' (s / 2) && decide (s / 2 < n)) := cn_two_ge _ _ 2 n fun t ht => by
    simp only [show 2 * t / 2 = t by omega, show (2 * t + 1) / 2 = t by omega, decide_eq_true ht, Bool.and_true]
    omega
  have le' : Le bl (n + 1) (fun t => S' t && decide (t < n)) k := le_more (fun X hX hc => s2 X (fun t ht hx => (Bool.and_eq_true _ _ ▸ hX t ht hx : _ ∧ _).1) hc) (by rw [decide_eq_false (Nat.lt_irrefl n), Bool.and_false])
  have t2' := Z2.top1 k _ (le_up Z.hb le')
  rw [cn_succ] at t2'
  have tl := Z.top1 k _ le'
  rw [cn_succ] at tl
  have el : cn n (fun t => S' t && decide (t < n)) = cn n S' := List.countP_congr fun t ht => by rw [decide_eq_true (List.mem_range.mp ht), Bool.and_true]
  obtain ⟨S, a1, a2⟩ := Z.at1 k
  have a2 : Le bl (n + 1) S k := a2
  have t3 := Z2.top1 k _ (le_up Z.hb a2)
  have lo : 2 * cn n S ≤ cn (2 * n) fun s => S (s / 2) := cn_two_ge _ _ 2 n fun t ht => by
    simp only [show 2 * t / 2 = t by omega, show (2 * t + 1) / 2 = t by omega]
    omega
  rw [cn_succ] at t3 a1
  simp only [show 2 * n / 2 = n by omega] at t3
  have t4 := Z'.top1 k _ ((le_congr h').mpr (le_less a2))
  have bS := b1_le (S n)
  by_cases hgt : (2 * (2 * n), 2 * (2 * n) + 1) ∈ flowAt T2 ge2 k
  · rw [if_pos hgt]
    rw [decide_eq_true hgt] at hg
    rw [hg] at vk top
    have : b1 true = 1 := rfl
    omega
  · rw [if_neg hgt]
    rw [decide_eq_false hgt] at hg
    rw [hg] at vk
    have : b1 false = 0 := rfl
    omega
theorem one_box (hb : Low bl) (tr : Trans bl) (top : ∀ t, t < n + 1 → n ∉ bl t) (Z : Bnds bl (n + 1) T ge) (Z' : Bnds bl' n T' ge') (h' : ∀ t, t < n → bl' t = bl t) : ∃ r, ∀ k, Com.pre (difs (hld T ge)) k = Com.pre (difs (hld T' ge')) k + if r < k then 1 else 0 := by
  obtain ⟨T2, ge2, R⟩ := run0 (bl := bl2 bl) (n := 2 * n + 1) (low2 hb) (Nat.le_refl _)
  have KK : 2 * (2 * n + 1) + 2 < (2 * (2 * n + 1) + 2) * (2 * n + 1 + 1) + 2 := by
    have : (2 * (2 * n + 1) + 2) * 1 ≤ (2 * (2 * n + 1) + 2) * (2 * n + 1 + 1) := Nat.mul_le_mul_left _ (by omega)
    omega
  have Z2 := run_bnds (low2 hb) (trans2 tr) KK R
  have top2 : ∀ t, t < 2 * n + 1 → 2 * n ∉ bl2 bl t := fun t ht hm => by
    rcases mem_bl2.mp hm with ⟨q1, q2⟩ | q
    · omega
    · rw [show 2 * n / 2 = n by omega] at q
      exact top _ (by omega) q
  have iff := box_iff Z Z' h' Z2
  have mono := run_mono (low2 hb) KK R (show 2 * n < 2 * n + 1 by omega) top2
  have lastT : (2 * (2 * n), 2 * (2 * n) + 1) ∈ flowAt T2 ge2 T2.length := by
    apply Classical.byContradiction
    intro hn
    have v := Z2.pre (Nat.le_refl T2.length)
    rw [pre_full (by rw [Z2.len]; exact Nat.le_refl _), Z2.sm, val_eq (Z2.sg _ (Nat.le_refl _)).fi Z2.hb] at v
    have : (List.range (2 * n + 1)).countP (fun t => decide ((2 * t, 2 * t + 1) ∈ flowAt T2 ge2 T2.length)) < (List.range (2 * n + 1)).length := by
      apply Nat.lt_of_le_of_ne List.countP_le_length
      intro e
      exact hn (of_decide_eq_true (List.countP_eq_length.mp e (2 * n) (List.mem_range.mpr (by omega))))
    rw [List.length_range] at this
    omega
  have first : ∃ r, r ≤ T2.length ∧ (2 * (2 * n), 2 * (2 * n) + 1) ∈ flowAt T2 ge2 r ∧ ∀ i, i < r → (2 * (2 * n), 2 * (2 * n) + 1) ∉ flowAt T2 ge2 i := by
    have : ∀ m, m ≤ T2.length → (2 * (2 * n), 2 * (2 * n) + 1) ∈ flowAt T2 ge2 m → ∃ r, r ≤ T2.length ∧ (2 * (2 * n), 2 * (2 * n) + 1) ∈ flowAt T2 ge2 r ∧ ∀ i, i < r → (2 * (2 * n), 2 * (2 * n) + 1) ∉ flowAt T2 ge2 i := by
      intro m
      induction m with
      | zero => intro h1 h2; exact ⟨0, h1, h2, fun i hi => by omega⟩
      | succ m ih =>
        intro h1 h2
        by_cases q : (2 * (2 * n), 2 * (2 * n) + 1) ∈ flowAt T2 ge2 m
        · exact ih (by omega) q
        · refine ⟨m + 1, h1, h2, fun i hi hin => q ?_⟩
          have := mono (m - i) i (by omega) hin
          rwa [show i + (m - i) = m by omega] at this
    exact this _ (Nat.le_refl _) lastT
  obtain ⟨r, r1, r2, r3⟩ := first
  have r0 : r ≠ 0 := fun z => by
    subst z
    have := iff 0 (Nat.zero_le _)
    rw [if_pos r2, pre_zero, pre_zero] at this
    omega
  refine ⟨r - 1, fun k => ?_⟩
  by_cases hk : k ≤ T2.length
  · rw [iff k hk]
    by_cases q : r ≤ k
    · have := mono (k - r) r (by omega) r2
      rw [show r + (k - r) = k by omega] at this
      rw [if_pos this, if_pos (by omega)]
    · rw [if_neg (r3 k (by omega)), if_neg (by omega)]
  · -- beyond
    have e1 := iff T2.length (Nat.le_refl _)
    rw [if_pos lastT] at e1
    rw [if_pos (by omega)]
    have m1 : ∀ {B : List Int}, IsShp B → ∀ i j, i ≤ j → Com.pre B i ≤ Com.pre B j := fun {B} sh i j hij => by
      obtain ⟨d, rfl⟩ : ∃ d, j = i + d := ⟨j - i, by omega⟩
      clear hij
      induction d with
      | zero => exact Int.le_refl _
      | succ d ih =>
        rw [show i + (d + 1) = (i + d) + 1 by omega, pre_succ]
        have := sh.getD_nn (i + d)
        omega
    have b1' : ∀ {B : List Int}, IsShp B → ∀ i, Com.pre B i ≤ B.sum := fun {B} sh i => by
      have := m1 sh i (max i B.length) (by omega)
      rwa [pre_full (n := max i B.length) (by omega)] at this
    have w : Com.pre (difs (hld T2 ge2)) T2.length = (2 * n + 1 : Nat) := by rw [pre_full (by rw [Z2.len]; exact Nat.le_refl _), Z2.sm]
    have all : Com.pre (difs (hld T ge)) T2.length = (n + 1 : Nat) := by
      have dn : Le bl (n + 1) (fun _ => true) T2.length := by
        have lk : Le (bl2 bl) (2 * n + 1) (gt (flowAt T2 ge2 T2.length)) T2.length := fun X hX hc => by
          have e := CC_cnt (Z2.sg _ (Nat.le_refl _)).fi Z2.hb X
          have e2 : cn (2 * n + 1) X = (List.range (2 * n + 1)).countP fun t => X t && gt (flowAt T2 ge2 T2.length) t := List.countP_congr fun t ht => by
            rw [Bool.and_eq_true]
            exact ⟨fun h => ⟨h, hX t (List.mem_range.mp ht) h⟩, fun h => h.1⟩
          rw [e2, ← e]
          have := flat_le 1 X (CC (2 * n + 1) (flowAt T2 ge2 T2.length) (2 * n + 1)) fun ch hch => ch_crd Z2.hb hc ((CC_ch (2 * n + 1) ch hch).1.chain (Z2.sg _ (Nat.le_refl _)).fi Z2.tr).1 fun x hx => (CC_lt (Z2.sg _ (Nat.le_refl _)).fi Z2.hb hch hx).1
          rw [Z2.chs (Nat.le_refl _)] at this
          omega
        have al : ∀ t, t < 2 * n + 1 → gt (flowAt T2 ge2 T2.length) t = true := fun t ht => by
          have v := Z2.pre (Nat.le_refl T2.length)
          rw [w, val_eq (Z2.sg _ (Nat.le_refl _)).fi Z2.hb] at v
          have e : (List.range (2 * n + 1)).countP (fun t => decide ((2 * t, 2 * t + 1) ∈ flowAt T2 ge2 T2.length)) = (List.range (2 * n + 1)).length := by rw [List.length_range]; omega
          exact List.countP_eq_length.mp e t (List.mem_range.mpr ht)
        have d := le_dn lk
        exact fun X hX hc => d X (fun t ht hx => by show (gt (flowAt T2 ge2 T2.length) (2 * t) || _) = true; rw [al (2 * t) (by omega)]; rfl) hc
      have t := Z.top1 _ _ dn
      have e : cn (n + 1) (fun _ => true) = n + 1 := by unfold cn; rw [List.countP_true, List.length_range]
      have u := b1' Z.sh T2.length
      rw [Z.sm] at u
      rw [e] at t
      omega
    have x1 := m1 Z.sh T2.length k (by omega)
    have x2 := b1' Z.sh k
    have x3 := m1 Z'.sh T2.length k (by omega)
    have x4 := b1' Z'.sh k
    rw [Z.sm] at x2
    rw [Z'.sm] at x4
    omega
end
end Fl
namespace Fl
open Com
def rowN (rr : Nat → Nat) (i m : Nat) : List Nat := (List.range m).filter fun t => decide (rr t = i)
theorem rowN_succ (rr : Nat → Nat) (i m : Nat) : rowN rr i (m + 1) = rowN rr i m ++ if rr m = i then [m] else [] := by
  unfold rowN
  rw [List.range_succ, List.filter_append]
  congr 1
  by_cases h : rr m = i
  · simp [h]
  · simp [h]
theorem rowN_pw (rr : Nat → Nat) (i m : Nat) : (rowN rr i m).Pairwise (· < ·) := List.Pairwise.filter _ List.pairwise_lt_range
theorem rowN_pre (rr : Nat → Nat) (i m : Nat) : ∀ d, ∃ s, rowN rr i (m + d) = rowN rr i m ++ s
  | 0 => ⟨[], by simp⟩
  | d + 1 => by
    obtain ⟨s, hs⟩ := rowN_pre rr i m d
    exact ⟨s ++ if rr (m + d) = i then [m + d] else [], by rw [← Nat.add_assoc, rowN_succ, hs, List.append_assoc]⟩
theorem rowN_at {rr : Nat → Nat} {i j t : Nat} : ∀ n, (rowN rr i n)[j]? = some t → (rowN rr i t).length = j ∧ t < n ∧ rr t = i
  | 0, h => by simp [rowN] at h
  | n + 1, h => by
    rw [rowN_succ] at h
    by_cases q : j < (rowN rr i n).length
    · rw [List.getElem?_append_left q] at h
      obtain ⟨a, b, c⟩ := rowN_at n h
      exact ⟨a, by omega, c⟩
    · rw [List.getElem?_append_right (by omega)] at h
      by_cases z : rr n = i
      · rw [if_pos z] at h
        have : j - (rowN rr i n).length = 0 := by
          apply Classical.byContradiction
          intro w
          rw [List.getElem?_eq_none (by simp; omega)] at h
          cases h
        rw [this] at h
        have e : n = t := by simpa using h
        subst e
        exact ⟨by omega, by omega, z⟩
      · rw [if_neg z] at h
        simp at h
structure Gw (B : Nat → List Int) (rr : Nat → Nat) (n : Nat) : Prop where
  sh : ∀ m, m ≤ n → IsShp (B m)
  b0 : B 0 = []
  bx : ∀ m, m < n → ∀ k, Com.pre (B (m + 1)) k = Com.pre (B m) k + if rr m < k then 1 else 0
section
variable {B : Nat → List Int} {rr : Nat → Nat} {n : Nat}
theorem Gw.get (G : Gw B rr n) {m : Nat} (hm : m < n) (k : Nat) : (B (m + 1)).getD k 0 = (B m).getD k 0 + if k = rr m then 1 else 0 := by
  have h1 := G.bx m hm (k + 1)
  have h0 := G.bx m hm k
  rw [pre_succ, pre_succ] at h1
  by_cases q : k = rr m
  · subst q
    rw [if_pos (by omega)] at h1
    rw [if_neg (by omega)] at h0
    rw [if_pos rfl]; omega
  · rw [if_neg q]
    by_cases z : rr m < k
    · rw [if_pos (by omega)] at h1
      rw [if_pos z] at h0
      omega
    · rw [if_neg (by omega)] at h1
      rw [if_neg z] at h0
      omega
theorem Gw.len_row (G : Gw B rr n) (i : Nat) : ∀ m, m ≤ n → ((rowN rr i m).length : Int) = (B m).getD i 0
  | 0, _ => by rw [G.b0]; rfl
  | m + 1, h => by
    rw [rowN_succ, List.length_append, Int.natCast_add, Gw.len_row G i m (by omega), G.get (by omega) i]
    by_cases q : i = rr m
    · rw [if_pos q, if_pos q.symm]; rfl
    · rw [if_neg q, if_neg fun z => q z.symm]; rfl
theorem Gw.lens (G : Gw B rr n) {m : Nat} (hm : m < n) : rr m ≤ (B m).length ∧ (B (m + 1)).length = max (B m).length (rr m + 1) := by
  have sa := G.sh m (by omega)
  have sb := G.sh (m + 1) (by omega)
  have e := G.get hm
  have key : ∀ k, k < (B (m + 1)).length ↔ k < (B m).length ∨ k = rr m := fun k => by
    rw [sb.getD_pos, e k]
    have x := sa.getD_pos k
    have y := sa.getD_nn k
    by_cases q : k = rr m
    · rw [if_pos q]
      exact ⟨fun _ => .inr q, fun _ => by omega⟩
    · rw [if_neg q]
      exact ⟨fun z => .inl (by omega), fun z => by rcases z with z | z; omega; exact absurd z q⟩
  have k1 : rr m ≤ (B m).length := by
    apply Classical.byContradiction
    intro z
    have a := (key (rr m)).mpr (.inr rfl)
    have b := (key (rr m - 1)).mp (by omega)
    omega
  refine ⟨k1, ?_⟩
  have a := key (B (m + 1)).length
  have b := key (max (B m).length (rr m + 1))
  have c := key (max (B m).length (rr m + 1) - 1)
  omega
theorem Gw.mono (G : Gw B rr n) (m : Nat) : ∀ d, m + d ≤ n → (B m).length ≤ (B (m + d)).length
  | 0, _ => Nat.le_refl _
  | d + 1, h => by
    have := Gw.mono G m d (by omega)
    have := (G.lens (m := m + d) (by omega)).2
    rw [← Nat.add_assoc]
    omega
theorem Gw.col (G : Gw B rr n) {i j t : Nat} (h : (rowN rr (i + 1) n)[j]? = some t) : ∃ u, (rowN rr i n)[j]? = some u ∧ u < t := by
  obtain ⟨a, b, c⟩ := rowN_at n h
  have l1 := G.len_row (i + 1) (t + 1) (by omega)
  have l0 := G.len_row i (t + 1) (by omega)
  rw [rowN_succ, if_pos c, List.length_append, List.length_singleton, a] at l1
  have sh := G.sh (t + 1) (by omega)
  have le : (B (t + 1)).getD (i + 1) 0 ≤ (B (t + 1)).getD i 0 := by
    by_cases q : i + 1 < (B (t + 1)).length
    · have := List.pairwise_iff_getElem.mp sh.1 i (i + 1) (by omega) q (by omega)
      rw [List.getD_eq_getElem?_getD, List.getD_eq_getElem?_getD, List.getElem?_eq_getElem q, List.getElem?_eq_getElem (by omega)]
      exact this
    · rw [getD_out (by omega)]
      exact sh.getD_nn i
  have lt : j < (rowN rr i (t + 1)).length := by omega
  have e := List.getElem?_eq_getElem lt
  obtain ⟨_, u1, u2⟩ := rowN_at (t + 1) e
  obtain ⟨s, hs⟩ := rowN_pre rr i (t + 1) (n - (t + 1))
  rw [show t + 1 + (n - (t + 1)) = n by omega] at hs
  refine ⟨_, by rw [hs, List.getElem?_append_left lt]; exact e, ?_⟩
  have : (rowN rr i (t + 1))[j] ≠ t := fun z => by rw [z] at u2; omega
  omega
end
def tabI (rr : Nat → Nat) (w m : Nat) : List (List Int) := (List.range w).map fun i => (rowN rr i m).map fun (t : Nat) => (t : Int)
theorem tabI_len (rr : Nat → Nat) (w m : Nat) : (tabI rr w m).length = w := by unfold tabI; simp
theorem tabI_get {rr : Nat → Nat} {w m i : Nat} (h : i < w) : (tabI rr w m)[i]? = some ((rowN rr i m).map fun (t : Nat) => (t : Int)) := by
  unfold tabI
  rw [List.getElem?_map, List.getElem?_range h]; rfl
theorem tabI_set {rr : Nat → Nat} {w m : Nat} (h : rr m < w) : (tabI rr w m).set (rr m) (((rowN rr (rr m) m).map fun (t : Nat) => (t : Int)) ++ [(m : Int)]) = tabI rr w (m + 1) := by
  apply List.ext_getElem?
  intro i
  rw [List.getElem?_set]
  by_cases q : i < w
  · rw [tabI_get q, tabI_get q]
    by_cases z : rr m = i
    · subst z
      rw [if_pos rfl, if_pos (by rw [tabI_len]; exact h), rowN_succ, if_pos rfl, List.map_append]; rfl
    · rw [if_neg z, rowN_succ, if_neg z, List.append_nil]
  · rw [List.getElem?_eq_none (l := tabI rr w (m + 1)) (by rw [tabI_len]; omega), List.getElem?_eq_none (l := tabI rr w m) (by rw [tabI_len]; omega), if_neg (by omega)]
theorem tabI_more {rr : Nat → Nat} {w m : Nat} (h : ∀ t, t < m → rr t < w) : tabI rr (w + 1) m = tabI rr w m ++ [[]] := by
  unfold tabI
  rw [List.range_succ, List.map_append]
  congr 1
  have : rowN rr w m = [] := List.filter_eq_nil_iff.mpr fun t ht => by
    have := h t (List.mem_range.mp ht)
    simp; omega
  simp [this]
theorem Gw.rr_lt {B : Nat → List Int} {rr : Nat → Nat} {n : Nat} (G : Gw B rr n) {m : Nat} (hm : m ≤ n) : ∀ t, t < m → rr t < (B m).length := fun t ht => by
  have a := (G.lens (m := t) (by omega)).2
  have b := G.mono (t + 1) (m - (t + 1)) (by omega)
  rw [show t + 1 + (m - (t + 1)) = m by omega] at b
  omega
theorem Gw.lens_eq {B : Nat → List Int} {rr : Nat → Nat} {n : Nat} (G : Gw B rr n) : (tabI rr (B n).length n).map (fun r => (r.length : Int)) = B n := by
  apply List.ext_getElem?
  intro i
  rw [List.getElem?_map]
  by_cases q : i < (B n).length
  · rw [tabI_get q, Option.map_some, List.length_map, G.len_row i n (Nat.le_refl _), List.getD_eq_getElem?_getD, List.getElem?_eq_getElem q]; rfl
  · rw [List.getElem?_eq_none (by rw [tabI_len]; omega), List.getElem?_eq_none (by omega)]; rfl
end Fl
namespace K32
open PySem L2 Bd Com
noncomputable section
section
variable {P : Program} {w : World} {K : PySem.W.Frag} {mg : Str → Option Value} {base : Heap}
def top (i : Nat) : Stmt := PySem.Challenge.pw_bandorder_k32_stairs.main.body.getD i (.Pass ⟨0, 0, 0, 0⟩)
def g_number_at : En → Option Out :=
  (oSeq (oRet (vIf (bOf (b2 pLt (gSl 1) (dOf (callD pLen (aCons (gSl 0) aNil))))) (b2 pIx (gSl 0) (gSl 1)) (fzOf (kC (.int 0)))))
  oNil)
def m_number_at : List PyData → Option Sl := mirror 2 g_number_at
def gX_box_at : En → Option OutX2 :=
  (xSeq2 (xOk (oSet 2 (fzOf (dOf (vLc (iLst (dOf (callD m_places_of_both (aCons (gFz 0) (aCons (gFz 1) aNil))))) (gNm 3) (bOf (b2 pNe (dOf (callD m_number_at (aCons (gFz 0) (aCons (gFz 3) aNil)))) (dOf (callD m_number_at (aCons (gFz 1) (aCons (gFz 3) aNil)))))) (gFz 3) [3])))))
  (xSeq2 (xIf (bOr (bOf (b2 pNe (dOf (callD pLen (aCons (gSl 2) aNil))) (kC (.int 1)))) (bOf (b2 pNe (dOf (callD m_number_at (aCons (gFz 1) (aCons (dOf (b2 pIx (gSl 2) (kC (.int 0)))) aNil)))) (dOf (b2 pAdd (dOf (callD m_number_at (aCons (gFz 0) (aCons (dOf (b2 pIx (gSl 2) (kC (.int 0)))) aNil)))) (kC (.int 1)))))))
  (xSeq (xRaise "NoShape" (kC (.str "the second shape has not just one box more")))
  xNil)
  xNil)
  (xTl (oSeq (oRet (b2 pIx (gSl 2) (kC (.int 0))))
  oNil))))
def mX_box_at : List PyData → Option (Except Str S2) := mirrorX 4 gX_box_at
def g_growth : En → Option Out :=
  (oSeq (oRet (vLc (iR1 (dOf (b2 pAdd (dOf (callD pLen (aCons (gSl 0) aNil))) (kC (.int 1))))) (gNm 1) bYes (dOf (callD m_bands (aCons (dOf (dSl (gSl 0) (fun _ => some none) (oInt (gSl 1)))) aNil))) [1]))
  oNil)
def m_growth : List PyData → Option Sl := mirror 2 g_growth
def g2_stairs_b1 : En2 → Option Out2 :=
  (oSeq2 (oAppAt 2 (dOf (callD (okD mX_box_at) (aCons (dOf (b2 pIx (gSl 1) (gSl 4))) (aCons (dOf (b2 pIx (gSl 1) (dOf (b2 pAdd (gSl 4) (kC (.int 1)))))) aNil)))) (gFz 4))
  oNil2)
def gD_stairs : En2 → Option Out2 :=
  (oSeq2 (lft [2] (oSet 1 (fzOf (dOf (callD m_growth (aCons (gFz 0) aNil))))))
  (oSeq2 (vSetD 2 (vLcD (iLst (dOf (b2 pIx (gSl 1) (dOf (vNeg (kC (.int 1))))))) (gNm 3) bYes (dLst aNil) [3]))
  (oSeq2 (oFor2 (iR1 (dOf (callD pLen (aCons (gSl 0) aNil)))) 4 g2_stairs_b1)
  (oSeq2 (oRetDV 2)
  oNil2))))
def mD_stairs : List PyData → Option (List (List PyData)) := mirrorD 5 gD_stairs
def g_law_copy : En → Option Out :=
  (oSeq (oRet (vLc (iLst (gSl 0)) (gNm 1) bYes (dOf (callD pListOf (aCons (gSl 1) aNil))) [1]))
  oNil)
def m_law_copy : List PyData → Option Sl := mirror 2 g_law_copy
def g_law_grown_at_b1 : En → Option Out :=
  (oSeq (oIf (bOf (b2 pNe (dOf (b2 pIx (gSl 0) (gSl 2))) (dOf (b2 pIx (gSl 1) (gSl 2)))))
  (oSeq (oRetV 2)
  oNil)
  oNil)
  oNil)
def g_law_grown_at : En → Option Out :=
  (oSeq (oFor (iR1 (dOf (callD pLen (aCons (gSl 0) aNil)))) (gNm 2)
  g_law_grown_at_b1)
  (oSeq (oRet (callD pLen (aCons (gSl 0) aNil)))
  oNil))
def m_law_grown_at : List PyData → Option Sl := mirror 3 g_law_grown_at
def g2_law_due_b1 : En2 → Option Out2 :=
  (oSeq2 (oAppD 1 (dLst aNil))
  oNil2)
def g2_law_due_b2 : En2 → Option Out2 :=
  (oSeq2 (lft [1] (oSet 3 (fzOf (dOf (callD m_law_grown_at (aCons (dOf (b2 pIx (gSl 0) (gSl 2))) (aCons (dOf (b2 pIx (gSl 0) (dOf (b2 pAdd (gSl 2) (kC (.int 1)))))) aNil)))))))
  (oSeq2 (oWhile2 FUEL (bOf (b2 pLe (dOf (callD pLen (aCons (gSl 1) aNil))) (gSl 3)))
  g2_law_due_b1)
  (oSeq2 (oAppAt 1 (gSl 3) (gFz 2))
  oNil2)))
def gD_law_due : En2 → Option Out2 :=
  (oSeq2 (oSetD 1 vNilD)
  (oSeq2 (oFor2 (iR1 (dOf (b2 pSub (dOf (callD pLen (aCons (gSl 0) aNil))) (kC (.int 1))))) 2 g2_law_due_b2)
  (oSeq2 (oRetDV 1)
  oNil2)))
def mD_law_due : List PyData → Option (List (List PyData)) := mirrorD 4 gD_law_due
def g_law_rise_b1 : En → Option Out :=
  (oSeq (oIf (bOf (b2 pLe (dOf (b2 pIx (gSl 2) (gSl 3))) (dOf (b2 pIx (gSl 1) (gSl 3)))))
  (oSeq (oRet (fzOf (kC (.bool false))))
  oNil)
  oNil)
  oNil)
def g_law_rise_b2 : En → Option Out :=
  (oSeq (oIf (bOr (bOf (b2 pEq (gSl 2) (dOf (dLst aNil)))) (bOf (b2 pNe (gSl 2) (dOf (callD pSortedSet (aCons (gSl 2) aNil))))))
  (oSeq (oRet (fzOf (kC (.bool false))))
  oNil)
  oNil)
  (oSeq (oIf (bOf (b2 (pIsB true) (gSl 1) (kC .none)))
  (oSeq (oIf (bOf (b2 pGt (dOf (callD pLen (aCons (gSl 2) aNil))) (dOf (callD pLen (aCons (gSl 1) aNil)))))
  (oSeq (oRet (fzOf (kC (.bool false))))
  oNil)
  oNil)
  (oSeq (oFor (iR1 (dOf (callD pLen (aCons (gSl 2) aNil)))) (gNm 3)
  g_law_rise_b1)
  oNil))
  oNil)
  (oSeq (oSet 1 (fzOf (gFz 2)))
  oNil)))
def g_law_rise : En → Option Out :=
  (oSeq (oSet 1 (fzOf (kC .none)))
  (oSeq (oFor (iLst (gFz 0)) (gNm 2)
  g_law_rise_b2)
  (oSeq (oRet (fzOf (kC (.bool true))))
  oNil)))
def m_law_rise : List PyData → Option Sl := mirror 4 g_law_rise
def g_law : En → Option Out :=
  (gGh 1 (callD m_law_stock (aCons (gFz 0) (aCons (kC (.int 0)) aNil)))
  (mSeq (mLft (oSet 2 (fzOf (kC (.int 9)))))
  (mSeq (mIf (xB (x2 pEq (xV (xCallG 2 mG_law_take (gaG (gaV (xPV (kC (.int 8))) gaNil)))) (xPV (kC (.int 7)))))
  (mSeq (mLft (oSet 2 (fzOf (kC (.int 14)))))
  mNil)
  mNil)
  (mSeq (mSet 3 (xFz (xV (xCallG 2 mG_law_order (gaG (gaV (xV (xCallG 2 mG_law_take (gaG (gaV (xPV (dOf (b2 pAdd (gSl 2) (kC (.int 1))))) gaNil)))) gaNil))))))
  (mDrp2 (oSeq2 (lft [5] (oSet 4 (fzOf (dOf (callD m_law_copy (aCons (gFz 3) aNil))))))
  (oSeq2 (oSetD 5 (callDD mD_stairs (aCons (gFz 4) aNil)))
  (oSeq2 (lft [5] (oSet 6 (fzOf (dOf (owD (callDD mD_law_due (aCons (dOf (callD m_growth (aCons (dOf (callD m_law_copy (aCons (gFz 3) aNil))) aNil))) aNil)))))))
  (oSeq2 (vwG [5] [] (oIf (bOr (bNot (bTru (dOf (vIsi "list" (gSl 5))))) (bOr (bOf (b2 pNe (gSl 5) (gSl 6))) (bOr (bNot (bTru (dOf (callD m_law_rise (aCons (gFz 6) aNil))))) (bOf (b2 pNe (gSl 4) (gSl 3))))))
  (oSeq (oRet (fzOf (kC (.bool false))))
  oNil)
  oNil))
  (oSeq2 (lft [5] (oIf (bOr (bOf (b2 pNe (dOf (vLc (iLst (gSl 6)) (gNm 7) bYes (dOf (callD pLen (aCons (gSl 7) aNil))) [7])) (dOf (callD m_bands (aCons (dOf (callD m_law_copy (aCons (gFz 3) aNil))) aNil))))) (bOf (b2 pNe (dOf (callD pSum (aCons (dOf (vLc (iLst (gSl 6)) (gNm 7) bYes (dOf (callD pLen (aCons (gSl 7) aNil))) [7])) aNil))) (dOf (callD pLen (aCons (gSl 3) aNil))))))
  (oSeq (oRet (fzOf (kC (.bool false))))
  oNil)
  oNil))
  (oSeq2 (oForApp 5 7 (kC (.int 0)))
  (oSeq2 (oAppF 5 (dOf (dLst (aCons (kC (.int 0)) aNil))))
  (oSeq2 (lft [5] (oRet (vOr (b2 pGt (dOf (callD pLen (aCons (gSl 3) aNil))) (kC (.int 9))) (vAnd (b2 pEq (dOf (owD (callDD mD_stairs (aCons (gFz 4) aNil)))) (gSl 6)) (b2 pEq (gSl 4) (gSl 3))))))
  oNil2)))))))))))))
def m_law : List PyData → Option Sl := mirror 8 g_law
end
end
end K32
namespace K32
open PySem L2 Bd Com
noncomputable section
theorem number_spec (a : List Int) (p : Nat) : m_number_at [.list (nums a), .int (p : Int)] = some (.fz (.int (a.getD p 0))) := by
  unfold m_number_at mirror g_number_at startE
  by_cases h : p < a.length
  · have d : decide ((p : Int) < (a.length : Int)) = true := decide_eq_true (by omega)
    have a1 : atI (nums a) (p : Int) = some (.int (a.getD p 0)) := atI_ints (by omega) (by rw [Int.toNat_natCast]; exact getD_at h)
    simp only [List.map_cons, List.map_nil, List.length_cons, List.length_nil, List.replicate, List.cons_append, List.nil_append, List.getElem?_cons_zero, List.getElem?_cons_succ, List.set_cons_succ, List.set_cons_zero, Nat.reduceSub, Nat.zero_add, Nat.reduceAdd, Option.map_some, Option.map_none, Option.bind_some, if_true, List.length_map, List.length_range, e_setE0, e_setES, e_dOf, e_fzOf, e_fz, e_ow, e_gSl0, e_gSlS, e_gFz0, e_gFzS, e_kC, e_aNil, e_aCons, e_dLst, e_dTup, e_b2, e_pI, e_pAddI, e_pAddL, e_callD, e_bOf, e_bNot, e_bTru, e_truB, e_bAnd, e_bOr, e_vAnd, e_bYes, e_pLenL, e_pLenT, e_pAbs, e_pListOf, e_pIxL, e_pIxT, e_vIsi, e_iLst, e_iEnm, e_gNm, e_oNil, e_oSeq, e_oSet, e_oRet, e_oIf, e_oFor, e_oFrz, e_vLc, e_frz0w, e_frz0f, e_frzS, e_wipeN, e_wipeC, e_oRetV, e_oApp, e_oExt, e_iOwn, e_iOwnE, e_gTpl2, e_pEqI, e_pNeI, e_pNeB, e_pEqB, e_vChain, e_vNeg, e_vRev, e_oInt, e_dSl, e_vNot, e_vOr, e_vLc2, e_isiL, e_isiI, e_isiB, e_isBB, e_oPar, e_oAug, e_oRevS, e_vIf, e_gGh, e_vRepL, e_pInt1B, e_oAugIx, e_mUnp, e_mPar2, e_mPar3, e_xTup, e_xLst, e_allN, e_allC, e_mDrp2, e_gTpl3, e_oSwap, e_vCallT, e_xCallO, e_mIns, e_mSetIx, e_vLend, e_flatO, e_flatFB, e_flatFI, e_isB, e_isNotBB, e_oUnp, e_iZp, e_oSetIxM, e_oIns, e_oWhile, e_xPV, e_xP, e_xPB, e_xPI, e_xV, e_xFz, e_x2, e_x2N, e_xB, e_xGix, e_mNil, e_mSeq, e_mIf, e_mRet, e_mSet, e_mGset, e_mGaug, e_mLft, e_mFor, e_mApp, e_gaNil, e_gaV, e_gaG, e_xCallG, Nat.reduceLT, Nat.reduceLeDiff, d, a1]
  · have d : decide ((p : Int) < (a.length : Int)) = false := decide_eq_false (by omega)
    have g0 : a.getD p 0 = 0 := by simp [List.getD, List.getElem?_eq_none (Nat.le_of_not_lt h)]
    simp only [List.map_cons, List.map_nil, List.length_cons, List.length_nil, List.replicate, List.cons_append, List.nil_append, List.getElem?_cons_zero, List.getElem?_cons_succ, List.set_cons_succ, List.set_cons_zero, Nat.reduceSub, Nat.zero_add, Nat.reduceAdd, Option.map_some, Option.map_none, Option.bind_some, if_true, List.length_map, List.length_range, e_setE0, e_setES, e_dOf, e_fzOf, e_fz, e_ow, e_gSl0, e_gSlS, e_gFz0, e_gFzS, e_kC, e_aNil, e_aCons, e_dLst, e_dTup, e_b2, e_pI, e_pAddI, e_pAddL, e_callD, e_bOf, e_bNot, e_bTru, e_truB, e_bAnd, e_bOr, e_vAnd, e_bYes, e_pLenL, e_pLenT, e_pAbs, e_pListOf, e_pIxL, e_pIxT, e_vIsi, e_iLst, e_iEnm, e_gNm, e_oNil, e_oSeq, e_oSet, e_oRet, e_oIf, e_oFor, e_oFrz, e_vLc, e_frz0w, e_frz0f, e_frzS, e_wipeN, e_wipeC, e_oRetV, e_oApp, e_oExt, e_iOwn, e_iOwnE, e_gTpl2, e_pEqI, e_pNeI, e_pNeB, e_pEqB, e_vChain, e_vNeg, e_vRev, e_oInt, e_dSl, e_vNot, e_vOr, e_vLc2, e_isiL, e_isiI, e_isiB, e_isBB, e_oPar, e_oAug, e_oRevS, e_vIf, e_gGh, e_vRepL, e_pInt1B, e_oAugIx, e_mUnp, e_mPar2, e_mPar3, e_xTup, e_xLst, e_allN, e_allC, e_mDrp2, e_gTpl3, e_oSwap, e_vCallT, e_xCallO, e_mIns, e_mSetIx, e_vLend, e_flatO, e_flatFB, e_flatFI, e_isB, e_isNotBB, e_oUnp, e_iZp, e_oSetIxM, e_oIns, e_oWhile, e_xPV, e_xP, e_xPB, e_xPI, e_xV, e_xFz, e_x2, e_x2N, e_xB, e_xGix, e_mNil, e_mSeq, e_mIf, e_mRet, e_mSet, e_mGset, e_mGaug, e_mLft, e_mFor, e_mApp, e_gaNil, e_gaV, e_gaG, e_xCallG, Nat.reduceLT, Nat.reduceLeDiff, d, g0]
def unl (a b : List Int) (m : Nat) : List Nat := (List.range m).filter fun p => !(a.getD p 0 == b.getD p 0)
def uI (a b : List Int) (m : Nat) : List Int := (unl a b m).map fun (k : Nat) => (k : Int)
theorem box_spec (a b : List Int) (ha : a.length < 500) (hb : b.length < 500) : mX_box_at [.list (nums a), .list (nums b)] = some (match unl a b (max a.length b.length) with
    | [u] => if b.getD u 0 = a.getD u 0 + 1 then .ok (.sl (.fz (.int (u : Int)))) else .error "NoShape"
    | _ => .error "NoShape") := by
  have pl := places_spec (nums a) (nums b) (by simpa using by omega) (by simpa using by omega)
  have ns := number_spec
  have c1 : (ups (max a.length b.length)).length < cap := by rw [ups_len, cap_eq]; omega
  rw [List.length_map, List.length_map] at pl
  generalize hM : max a.length b.length = M at pl c1 ⊢
  have lc : lcD (gNm 3) (bOf (b2 pNe (dOf (callD m_number_at (aCons (gFz 0) (aCons (gFz 3) aNil)))) (dOf (callD m_number_at (aCons (gFz 1) (aCons (gFz 3) aNil)))))) (gFz 3) [some (.fz (.list (nums a))), some (.fz (.list (nums b))), none, none] (nums (ups M)) = some (nums (uI a b M)) := by
    rw [nums_ups]
    unfold uI unl nums
    rw [List.map_map]
    refine lcD_filter _ _ _ _ (fun p _ => ?_) (fun p _ _ => by simp only [List.map_cons, List.map_nil, List.length_cons, List.length_nil, List.replicate, List.cons_append, List.nil_append, List.getElem?_cons_zero, List.getElem?_cons_succ, List.set_cons_succ, List.set_cons_zero, Nat.reduceSub, Nat.zero_add, Nat.reduceAdd, Option.map_some, Option.map_none, Option.bind_some, if_true, List.length_map, List.length_range, e_setE0, e_setES, e_dOf, e_fzOf, e_fz, e_ow, e_gSl0, e_gSlS, e_gFz0, e_gFzS, e_kC, e_aNil, e_aCons, e_dLst, e_dTup, e_b2, e_pI, e_pAddI, e_pAddL, e_callD, e_bOf, e_bNot, e_bTru, e_truB, e_bAnd, e_bOr, e_vAnd, e_bYes, e_pLenL, e_pLenT, e_pAbs, e_pListOf, e_pIxL, e_pIxT, e_vIsi, e_iLst, e_iEnm, e_gNm, e_oNil, e_oSeq, e_oSet, e_oRet, e_oIf, e_oFor, e_oFrz, e_vLc, e_frz0w, e_frz0f, e_frzS, e_wipeN, e_wipeC, e_oRetV, e_oApp, e_oExt, e_iOwn, e_iOwnE, e_gTpl2, e_pEqI, e_pNeI, e_pNeB, e_pEqB, e_vChain, e_vNeg, e_vRev, e_oInt, e_dSl, e_vNot, e_vOr, e_vLc2, e_isiL, e_isiI, e_isiB, e_isBB, e_oPar, e_oAug, e_oRevS, e_vIf, e_gGh, e_vRepL, e_pInt1B, e_oAugIx, e_mUnp, e_mPar2, e_mPar3, e_xTup, e_xLst, e_allN, e_allC, e_mDrp2, e_gTpl3, e_oSwap, e_vCallT, e_xCallO, e_mIns, e_mSetIx, e_vLend, e_flatO, e_flatFB, e_flatFI, e_isB, e_isNotBB, e_oUnp, e_iZp, e_oSetIxM, e_oIns, e_oWhile, e_xPV, e_xP, e_xPB, e_xPI, e_xV, e_xFz, e_x2, e_x2N, e_xB, e_xGix, e_mNil, e_mSeq, e_mIf, e_mRet, e_mSet, e_mGset, e_mGaug, e_mLft, e_mFor, e_mApp, e_gaNil, e_gaV, e_gaG, e_xCallG, Nat.reduceLT, Nat.reduceLeDiff, Function.comp])
    have n1 := ns a p
    have n2 := ns b p
    generalize m_number_at = mn at n1 n2
    unfold nums at n1 n2
    simp only [List.map_cons, List.map_nil, List.length_cons, List.length_nil, List.replicate, List.cons_append, List.nil_append, List.getElem?_cons_zero, List.getElem?_cons_succ, List.set_cons_succ, List.set_cons_zero, Nat.reduceSub, Nat.zero_add, Nat.reduceAdd, Option.map_some, Option.map_none, Option.bind_some, if_true, List.length_map, List.length_range, e_setE0, e_setES, e_dOf, e_fzOf, e_fz, e_ow, e_gSl0, e_gSlS, e_gFz0, e_gFzS, e_kC, e_aNil, e_aCons, e_dLst, e_dTup, e_b2, e_pI, e_pAddI, e_pAddL, e_callD, e_bOf, e_bNot, e_bTru, e_truB, e_bAnd, e_bOr, e_vAnd, e_bYes, e_pLenL, e_pLenT, e_pAbs, e_pListOf, e_pIxL, e_pIxT, e_vIsi, e_iLst, e_iEnm, e_gNm, e_oNil, e_oSeq, e_oSet, e_oRet, e_oIf, e_oFor, e_oFrz, e_vLc, e_frz0w, e_frz0f, e_frzS, e_wipeN, e_wipeC, e_oRetV, e_oApp, e_oExt, e_iOwn, e_iOwnE, e_gTpl2, e_pEqI, e_pNeI, e_pNeB, e_pEqB, e_vChain, e_vNeg, e_vRev, e_oInt, e_dSl, e_vNot, e_vOr, e_vLc2, e_isiL, e_isiI, e_isiB, e_isBB, e_oPar, e_oAug, e_oRevS, e_vIf, e_gGh, e_vRepL, e_pInt1B, e_oAugIx, e_mUnp, e_mPar2, e_mPar3, e_xTup, e_xLst, e_allN, e_allC, e_mDrp2, e_gTpl3, e_oSwap, e_vCallT, e_xCallO, e_mIns, e_mSetIx, e_vLend, e_flatO, e_flatFB, e_flatFI, e_isB, e_isNotBB, e_oUnp, e_iZp, e_oSetIxM, e_oIns, e_oWhile, e_xPV, e_xP, e_xPB, e_xPI, e_xV, e_xFz, e_x2, e_x2N, e_xB, e_xGix, e_mNil, e_mSeq, e_mIf, e_mRet, e_mSet, e_mGset, e_mGaug, e_mLft, e_mFor, e_mApp, e_gaNil, e_gaV, e_gaG, e_xCallG, Nat.reduceLT, Nat.reduceLeDiff, n1, n2]
  have a0 : ∀ u : Nat, atI (nums [(u : Int)]) 0 = some (.int (u : Int)) := fun u => rfl
  unfold mX_box_at mirrorX gX_box_at startE
  generalize hU : unl a b M = U
  have hU' : uI a b M = U.map fun (k : Nat) => (k : Int) := by unfold uI; rw [hU]
  rw [hU'] at lc
  cases U with
  | nil =>
    generalize m_number_at = mn at lc
    generalize m_places_of_both = mp at pl
    generalize ups M = O at *
    simp only [List.map_cons, List.map_nil, List.length_cons, List.length_nil, List.replicate, List.cons_append, List.nil_append, List.getElem?_cons_zero, List.getElem?_cons_succ, List.set_cons_succ, List.set_cons_zero, Nat.reduceSub, Nat.zero_add, Nat.reduceAdd, Option.map_some, Option.map_none, Option.bind_some, if_true, List.length_map, List.length_range, e_setE0, e_setES, e_dOf, e_fzOf, e_fz, e_ow, e_gSl0, e_gSlS, e_gFz0, e_gFzS, e_kC, e_aNil, e_aCons, e_dLst, e_dTup, e_b2, e_pI, e_pAddI, e_pAddL, e_callD, e_bOf, e_bNot, e_bTru, e_truB, e_bAnd, e_bOr, e_vAnd, e_bYes, e_pLenL, e_pLenT, e_pAbs, e_pListOf, e_pIxL, e_pIxT, e_vIsi, e_iLst, e_iEnm, e_gNm, e_oNil, e_oSeq, e_oSet, e_oRet, e_oIf, e_oFor, e_oFrz, e_vLc, e_frz0w, e_frz0f, e_frzS, e_wipeN, e_wipeC, e_oRetV, e_oApp, e_oExt, e_iOwn, e_iOwnE, e_gTpl2, e_pEqI, e_pNeI, e_pNeB, e_pEqB, e_vChain, e_vNeg, e_vRev, e_oInt, e_dSl, e_vNot, e_vOr, e_vLc2, e_isiL, e_isiI, e_isiB, e_isBB, e_oPar, e_oAug, e_oRevS, e_vIf, e_gGh, e_vRepL, e_pInt1B, e_oAugIx, e_mUnp, e_mPar2, e_mPar3, e_xTup, e_xLst, e_allN, e_allC, e_mDrp2, e_gTpl3, e_oSwap, e_vCallT, e_xCallO, e_mIns, e_mSetIx, e_vLend, e_flatO, e_flatFB, e_flatFI, e_isB, e_isNotBB, e_oUnp, e_iZp, e_oSetIxM, e_oIns, e_oWhile, e_xPV, e_xP, e_xPB, e_xPI, e_xV, e_xFz, e_x2, e_x2N, e_xB, e_xGix, e_mNil, e_mSeq, e_mIf, e_mRet, e_mSet, e_mGset, e_mGaug, e_mLft, e_mFor, e_mApp, e_gaNil, e_gaV, e_gaG, e_xCallG, Nat.reduceLT, Nat.reduceLeDiff, e_xSeq2, e_xOk, e_xIf, pl, c1, lc, show ((0 : Nat) : Int) = 0 from rfl, show ((0 : Int) == 1) = false from rfl, Bool.not_false, e_xSeq, e_xRaise]
  | cons u U =>
    cases U with
    | nil =>
      have n1 := ns a u
      have n2 := ns b u
      have aa := a0 u
      generalize m_number_at = mn at lc n1 n2
      generalize m_places_of_both = mp at pl
      generalize ups M = O at *
      by_cases hz : b.getD u 0 = a.getD u 0 + 1
      · have hz' : (b.getD u 0 == a.getD u 0 + 1) = true := by simpa using hz
        rw [List.map_cons, List.map_nil] at lc
        dsimp only
        rw [if_pos hz]
        generalize hx : nums [(u : Int)] = N at lc aa
        have nl : N.length = 1 := by rw [← hx]; rfl
        simp only [List.map_cons, List.map_nil, List.length_cons, List.length_nil, List.replicate, List.cons_append, List.nil_append, List.getElem?_cons_zero, List.getElem?_cons_succ, List.set_cons_succ, List.set_cons_zero, Nat.reduceSub, Nat.zero_add, Nat.reduceAdd, Option.map_some, Option.map_none, Option.bind_some, if_true, List.length_map, List.length_range, e_setE0, e_setES, e_dOf, e_fzOf, e_fz, e_ow, e_gSl0, e_gSlS, e_gFz0, e_gFzS, e_kC, e_aNil, e_aCons, e_dLst, e_dTup, e_b2, e_pI, e_pAddI, e_pAddL, e_callD, e_bOf, e_bNot, e_bTru, e_truB, e_bAnd, e_bOr, e_vAnd, e_bYes, e_pLenL, e_pLenT, e_pAbs, e_pListOf, e_pIxL, e_pIxT, e_vIsi, e_iLst, e_iEnm, e_gNm, e_oNil, e_oSeq, e_oSet, e_oRet, e_oIf, e_oFor, e_oFrz, e_vLc, e_frz0w, e_frz0f, e_frzS, e_wipeN, e_wipeC, e_oRetV, e_oApp, e_oExt, e_iOwn, e_iOwnE, e_gTpl2, e_pEqI, e_pNeI, e_pNeB, e_pEqB, e_vChain, e_vNeg, e_vRev, e_oInt, e_dSl, e_vNot, e_vOr, e_vLc2, e_isiL, e_isiI, e_isiB, e_isBB, e_oPar, e_oAug, e_oRevS, e_vIf, e_gGh, e_vRepL, e_pInt1B, e_oAugIx, e_mUnp, e_mPar2, e_mPar3, e_xTup, e_xLst, e_allN, e_allC, e_mDrp2, e_gTpl3, e_oSwap, e_vCallT, e_xCallO, e_mIns, e_mSetIx, e_vLend, e_flatO, e_flatFB, e_flatFI, e_isB, e_isNotBB, e_oUnp, e_iZp, e_oSetIxM, e_oIns, e_oWhile, e_xPV, e_xP, e_xPB, e_xPI, e_xV, e_xFz, e_x2, e_x2N, e_xB, e_xGix, e_mNil, e_mSeq, e_mIf, e_mRet, e_mSet, e_mGset, e_mGaug, e_mLft, e_mFor, e_mApp, e_gaNil, e_gaV, e_gaG, e_xCallG, Nat.reduceLT, Nat.reduceLeDiff, e_xSeq2, e_xOk, e_xIf, pl, c1, lc, nl, show ((1 : Nat) : Int) = 1 from rfl, show ((1 : Int) == 1) = true from rfl, Bool.not_true, aa, n1, n2, hz', e_xNil, e_xTl]
      · have hz' : (b.getD u 0 == a.getD u 0 + 1) = false := by simpa using hz
        rw [List.map_cons, List.map_nil] at lc
        dsimp only
        rw [if_neg hz]
        generalize hx : nums [(u : Int)] = N at lc aa
        have nl : N.length = 1 := by rw [← hx]; rfl
        simp only [List.map_cons, List.map_nil, List.length_cons, List.length_nil, List.replicate, List.cons_append, List.nil_append, List.getElem?_cons_zero, List.getElem?_cons_succ, List.set_cons_succ, List.set_cons_zero, Nat.reduceSub, Nat.zero_add, Nat.reduceAdd, Option.map_some, Option.map_none, Option.bind_some, if_true, List.length_map, List.length_range, e_setE0, e_setES, e_dOf, e_fzOf, e_fz, e_ow, e_gSl0, e_gSlS, e_gFz0, e_gFzS, e_kC, e_aNil, e_aCons, e_dLst, e_dTup, e_b2, e_pI, e_pAddI, e_pAddL, e_callD, e_bOf, e_bNot, e_bTru, e_truB, e_bAnd, e_bOr, e_vAnd, e_bYes, e_pLenL, e_pLenT, e_pAbs, e_pListOf, e_pIxL, e_pIxT, e_vIsi, e_iLst, e_iEnm, e_gNm, e_oNil, e_oSeq, e_oSet, e_oRet, e_oIf, e_oFor, e_oFrz, e_vLc, e_frz0w, e_frz0f, e_frzS, e_wipeN, e_wipeC, e_oRetV, e_oApp, e_oExt, e_iOwn, e_iOwnE, e_gTpl2, e_pEqI, e_pNeI, e_pNeB, e_pEqB, e_vChain, e_vNeg, e_vRev, e_oInt, e_dSl, e_vNot, e_vOr, e_vLc2, e_isiL, e_isiI, e_isiB, e_isBB, e_oPar, e_oAug, e_oRevS, e_vIf, e_gGh, e_vRepL, e_pInt1B, e_oAugIx, e_mUnp, e_mPar2, e_mPar3, e_xTup, e_xLst, e_allN, e_allC, e_mDrp2, e_gTpl3, e_oSwap, e_vCallT, e_xCallO, e_mIns, e_mSetIx, e_vLend, e_flatO, e_flatFB, e_flatFI, e_isB, e_isNotBB, e_oUnp, e_iZp, e_oSetIxM, e_oIns, e_oWhile, e_xPV, e_xP, e_xPB, e_xPI, e_xV, e_xFz, e_x2, e_x2N, e_xB, e_xGix, e_mNil, e_mSeq, e_mIf, e_mRet, e_mSet, e_mGset, e_mGaug, e_mLft, e_mFor, e_mApp, e_gaNil, e_gaV, e_gaG, e_xCallG, Nat.reduceLT, Nat.reduceLeDiff, e_xSeq2, e_xOk, e_xIf, pl, c1, lc, nl, show ((1 : Nat) : Int) = 1 from rfl, show ((1 : Int) == 1) = true from rfl, Bool.not_true, aa, n1, n2, hz', Bool.not_false, e_xSeq, e_xRaise]
    | cons v U =>
      generalize m_number_at = mn at lc
      generalize m_places_of_both = mp at pl
      generalize ups M = O at *
      have nl : ((((u :: v :: U).map fun (k : Nat) => (k : Int)).length : Nat) : Int) ≠ 1 := by simp; omega
      generalize hx : (u :: v :: U).map (fun (k : Nat) => (k : Int)) = W at lc nl
      have nl' : (((W.length : Nat) : Int) == 1) = false := by simpa using nl
      simp only [List.map_cons, List.map_nil, List.length_cons, List.length_nil, List.replicate, List.cons_append, List.nil_append, List.getElem?_cons_zero, List.getElem?_cons_succ, List.set_cons_succ, List.set_cons_zero, Nat.reduceSub, Nat.zero_add, Nat.reduceAdd, Option.map_some, Option.map_none, Option.bind_some, if_true, List.length_map, List.length_range, e_setE0, e_setES, e_dOf, e_fzOf, e_fz, e_ow, e_gSl0, e_gSlS, e_gFz0, e_gFzS, e_kC, e_aNil, e_aCons, e_dLst, e_dTup, e_b2, e_pI, e_pAddI, e_pAddL, e_callD, e_bOf, e_bNot, e_bTru, e_truB, e_bAnd, e_bOr, e_vAnd, e_bYes, e_pLenL, e_pLenT, e_pAbs, e_pListOf, e_pIxL, e_pIxT, e_vIsi, e_iLst, e_iEnm, e_gNm, e_oNil, e_oSeq, e_oSet, e_oRet, e_oIf, e_oFor, e_oFrz, e_vLc, e_frz0w, e_frz0f, e_frzS, e_wipeN, e_wipeC, e_oRetV, e_oApp, e_oExt, e_iOwn, e_iOwnE, e_gTpl2, e_pEqI, e_pNeI, e_pNeB, e_pEqB, e_vChain, e_vNeg, e_vRev, e_oInt, e_dSl, e_vNot, e_vOr, e_vLc2, e_isiL, e_isiI, e_isiB, e_isBB, e_oPar, e_oAug, e_oRevS, e_vIf, e_gGh, e_vRepL, e_pInt1B, e_oAugIx, e_mUnp, e_mPar2, e_mPar3, e_xTup, e_xLst, e_allN, e_allC, e_mDrp2, e_gTpl3, e_oSwap, e_vCallT, e_xCallO, e_mIns, e_mSetIx, e_vLend, e_flatO, e_flatFB, e_flatFI, e_isB, e_isNotBB, e_oUnp, e_iZp, e_oSetIxM, e_oIns, e_oWhile, e_xPV, e_xP, e_xPB, e_xPI, e_xV, e_xFz, e_x2, e_x2N, e_xB, e_xGix, e_mNil, e_mSeq, e_mIf, e_mRet, e_mSet, e_mGset, e_mGaug, e_mLft, e_mFor, e_mApp, e_gaNil, e_gaV, e_gaG, e_xCallG, Nat.reduceLT, Nat.reduceLeDiff, e_xSeq2, e_xOk, e_xIf, pl, c1, lc, nl', Bool.not_false, e_xSeq, e_xRaise]
theorem cut_take (xs : List PyData) (k : Nat) : cutD xs none (some (k : Int)) = xs.take k := by
  unfold cutD
  rw [HT.sIx_none, HT.sIx_nat, List.drop_zero, Nat.sub_zero]
  by_cases h : k ≤ xs.length
  · rw [Nat.min_eq_left h]
  · rw [Nat.min_eq_right (by omega), List.take_of_length_le (Nat.le_refl _), List.take_of_length_le (by omega)]
theorem mem_bl {o : List (List Int)} (h : IsOrd o) (t l : Nat) : (l : Int) ∈ o.getD t [] ↔ l ∈ bl o t := by
  unfold bl
  rw [List.mem_map]
  constructor
  · intro q; exact ⟨_, q, Int.toNat_natCast l⟩
  · rintro ⟨x, hx, e⟩
    have := row_nn h t x hx
    rw [show (l : Int) = x by omega]; exact hx
theorem trans_of {o : List (List Int)} (h : IsOrd o) : Fl.Trans (bl o) := fun x y z hx hy => by
  rw [← mem_bl h] at hx hy ⊢
  cases q : o[z]? with
  | none => rw [List.getD, q] at hy; exact nomatch hy
  | some r =>
    rw [List.getD, q] at hy ⊢
    have hy : (y : Int) ∈ r := hy
    cases q2 : o[y]? with
    | none => rw [List.getD, q2] at hx; exact nomatch hx
    | some r' =>
      rw [List.getD, q2] at hx
      exact (h z r q).2.2 (y : Int) hy r' (by rw [Int.toNat_natCast]; exact q2) (x : Int) hx
theorem ord_take {o : List (List Int)} (h : IsOrd o) (m : Nat) : IsOrd (o.take m) := fun j r hj => by
  have e : ∀ {i : Nat} {r : List Int}, (o.take m)[i]? = some r → o[i]? = some r := fun {i r} hi => by
    rw [List.getElem?_take] at hi
    split at hi
    · exact hi
    · cases hi
  obtain ⟨a, b, c⟩ := h j r (e hj)
  exact ⟨a, b, fun x hx r' hr' => c x hx r' (e hr')⟩
theorem bl_take (o : List (List Int)) (m t : Nat) (ht : t < m) : bl (o.take m) t = bl o t := by
  unfold bl
  rw [List.getD_eq_getElem?_getD, List.getD_eq_getElem?_getD, List.getElem?_take, if_pos ht]
structure Gr (o : List (List Int)) (B : Nat → List Int) : Prop where
  sp : ∀ m, m ≤ o.length → m_bands [.list (rows (o.take m))] = some (.ow (nums (B m)))
  sh : ∀ m, m ≤ o.length → IsShp (B m)
  sm : ∀ m, m ≤ o.length → (B m).sum = m
  ln : ∀ m, m ≤ o.length → (B m).length ≤ 14
  bx : ∀ m, m < o.length → ∃ r, ∀ k, pre (B (m + 1)) k = pre (B m) k + if r < k then 1 else 0
theorem gr_ex (o : List (List Int)) (h : IsOrd o) (hl : o.length ≤ 14) : ∃ B, Gr o B := by
  have ex : ∀ m : Nat, ∃ p : List (Fl.Flow × Fl.Mk) × Fl.Flow, m ≤ o.length → Fl.Run (bl (o.take m)) m FUEL [] (m : Int) p.1 p.2 ∧ m_bands [.list (rows (o.take m))] = some (.ow (nums (bandsI p.1 p.2))) ∧ IsShp (bandsI p.1 p.2) ∧ (bandsI p.1 p.2).sum = m ∧ (bandsI p.1 p.2).length ≤ 14 := fun m => by
    by_cases hm : m ≤ o.length
    · have lm : (o.take m).length = m := by rw [List.length_take]; omega
      obtain ⟨T, ge, R, a, b, c, d, _⟩ := bands_ok (o.take m) (ord_take h m) (by omega)
      rw [lm] at R c
      exact ⟨(T, ge), fun _ => ⟨R, a, b, c, d⟩⟩
    · exact ⟨([], []), fun z => absurd z hm⟩
  obtain ⟨f, hf⟩ := Classical.axiomOfChoice ex
  refine ⟨fun m => bandsI (f m).1 (f m).2, fun m hm => (hf m hm).2.1, fun m hm => (hf m hm).2.2.1, fun m hm => (hf m hm).2.2.2.1, fun m hm => (hf m hm).2.2.2.2, fun m hm => ?_⟩
  have KK : ∀ n, n ≤ 14 → 2 * n + 2 < FUEL := fun n hn => by
    have := fuel_ok hn
    have : (2 * n + 2) * 1 ≤ (2 * n + 2) * (n + 1) := Nat.mul_le_mul_left _ (by omega)
    omega
  have Z := Fl.run_bnds (low_of (ord_take h (m + 1))) (trans_of (ord_take h (m + 1))) (KK _ (by omega)) (hf (m + 1) (by omega)).1
  have Z' := Fl.run_bnds (low_of (ord_take h m)) (trans_of (ord_take h m)) (KK _ (by omega)) (hf m (by omega)).1
  exact Fl.one_box (low_of (ord_take h (m + 1))) (trans_of (ord_take h (m + 1))) (fun t ht hn => by have := low_of (ord_take h (m + 1)) t m hn; omega) Z Z' fun t ht => by rw [bl_take _ _ _ ht, bl_take _ _ _ (by omega)]
theorem box_get {a b : List Int} {r : Nat} (h : ∀ k, pre b k = pre a k + if r < k then 1 else 0) (k : Nat) : b.getD k 0 = a.getD k 0 + if k = r then 1 else 0 := by
  have h1 := h (k + 1)
  have h0 := h k
  rw [pre_succ, pre_succ] at h1
  by_cases q : k = r
  · subst q
    rw [if_pos (by omega)] at h1
    rw [if_neg (by omega)] at h0
    rw [if_pos rfl]; omega
  · rw [if_neg q]
    by_cases z : r < k
    · rw [if_pos (by omega)] at h1
      rw [if_pos z] at h0
      omega
    · rw [if_neg (by omega)] at h1
      rw [if_neg z] at h0
      omega
theorem unl_box {a b : List Int} {r : Nat} (h : ∀ k, pre b k = pre a k + if r < k then 1 else 0) (sa : IsShp a) : unl a b (max a.length b.length) = [r] := by
  have hg := box_get h
  have rb : r < b.length := by
    apply Classical.byContradiction
    intro z
    have := hg r
    rw [getD_out (l := b) (by omega), if_pos rfl] at this
    have := sa.getD_nn r
    omega
  have hrM : r < max a.length b.length := by omega
  generalize max a.length b.length = M at hrM
  unfold unl
  have e : (List.range M).filter (fun p => !(a.getD p 0 == b.getD p 0)) = (List.range M).filter fun p => decide (p = r) := List.filter_congr fun p _ => by
    rw [hg p]
    by_cases q : p = r
    · rw [if_pos q, decide_eq_true q]
      have : (a.getD p 0 == a.getD p 0 + 1) = false := by
        cases z : (a.getD p 0 == a.getD p 0 + 1)
        · rfl
        · have := eq_of_beq z; omega
      rw [this]; rfl
    · rw [if_neg q, decide_eq_false q, Int.add_zero, beq_self_eq_true]; rfl
  rw [e]
  obtain ⟨d, rfl⟩ : ∃ d, M = r + 1 + d := ⟨M - (r + 1), by omega⟩
  rw [List.range_add, List.range_succ, List.filter_append, List.filter_append]
  have z1 : (List.range r).filter (fun p => decide (p = r)) = [] := List.filter_eq_nil_iff.mpr fun p hp => by
    have := List.mem_range.mp hp
    simp; omega
  have z2 : ((List.range d).map (r + 1 + ·)).filter (fun p => decide (p = r)) = [] := List.filter_eq_nil_iff.mpr fun p hp => by
    obtain ⟨j, _, rfl⟩ := List.mem_map.mp hp
    simp; omega
  rw [z1, z2]
  simp
theorem box_ok {a b : List Int} {r : Nat} (h : ∀ k, pre b k = pre a k + if r < k then 1 else 0) (sa : IsShp a) (la : a.length < 500) (lb : b.length < 500) : okD mX_box_at [.list (nums a), .list (nums b)] = some (.fz (.int (r : Int))) := by
  have bs := box_spec a b la lb
  rw [unl_box h sa] at bs
  dsimp only at bs
  rw [if_pos (by have := box_get h r; rw [if_pos rfl] at this; exact this)] at bs
  unfold okD
  rw [bs]
theorem copy_spec (o : List (List Int)) (h : o.length < 1000) : m_law_copy [.list (rows o)] = some (.ow (rows o)) := by
  have c1 : o.length < cap := by rw [cap_eq]; omega
  have lr : (rows o).length = o.length := by unfold rows; rw [List.length_map]
  have lc : lcD (gNm 1) bYes (dOf (callD pListOf (aCons (gSl 1) aNil))) [some (.fz (.list (rows o))), none] (rows o) = some (rows o) := copy_rows o fun r => by
    unfold rowD
    generalize rows o = RO
    simp only [List.map_cons, List.map_nil, List.length_cons, List.length_nil, List.replicate, List.cons_append, List.nil_append, List.getElem?_cons_zero, List.getElem?_cons_succ, List.set_cons_succ, List.set_cons_zero, Nat.reduceSub, Nat.zero_add, Nat.reduceAdd, Option.map_some, Option.map_none, Option.bind_some, if_true, List.length_map, List.length_range, e_setE0, e_setES, e_dOf, e_fzOf, e_fz, e_ow, e_gSl0, e_gSlS, e_gFz0, e_gFzS, e_kC, e_aNil, e_aCons, e_dLst, e_dTup, e_b2, e_pI, e_pAddI, e_pAddL, e_callD, e_bOf, e_bNot, e_bTru, e_truB, e_bAnd, e_bOr, e_vAnd, e_bYes, e_pLenL, e_pLenT, e_pAbs, e_pListOf, e_pIxL, e_pIxT, e_vIsi, e_iLst, e_iEnm, e_gNm, e_oNil, e_oSeq, e_oSet, e_oRet, e_oIf, e_oFor, e_oFrz, e_vLc, e_frz0w, e_frz0f, e_frzS, e_wipeN, e_wipeC, e_oRetV, e_oApp, e_oExt, e_iOwn, e_iOwnE, e_gTpl2, e_pEqI, e_pNeI, e_pNeB, e_pEqB, e_vChain, e_vNeg, e_vRev, e_oInt, e_dSl, e_vNot, e_vOr, e_vLc2, e_isiL, e_isiI, e_isiB, e_isBB, e_oPar, e_oAug, e_oRevS, e_vIf, e_gGh, e_vRepL, e_pInt1B, e_oAugIx, e_mUnp, e_mPar2, e_mPar3, e_xTup, e_xLst, e_allN, e_allC, e_mDrp2, e_gTpl3, e_oSwap, e_vCallT, e_xCallO, e_mIns, e_mSetIx, e_vLend, e_flatO, e_flatFB, e_flatFI, e_isB, e_isNotBB, e_oUnp, e_iZp, e_oSetIxM, e_oIns, e_oWhile, e_xPV, e_xP, e_xPB, e_xPI, e_xV, e_xFz, e_x2, e_x2N, e_xB, e_xGix, e_mNil, e_mSeq, e_mIf, e_mRet, e_mSet, e_mGset, e_mGaug, e_mLft, e_mFor, e_mApp, e_gaNil, e_gaV, e_gaG, e_xCallG, Nat.reduceLT, Nat.reduceLeDiff]
  unfold m_law_copy mirror g_law_copy startE
  generalize rows o = RO at lr lc
  simp only [List.map_cons, List.map_nil, List.length_cons, List.length_nil, List.replicate, List.cons_append, List.nil_append, List.getElem?_cons_zero, List.getElem?_cons_succ, List.set_cons_succ, List.set_cons_zero, Nat.reduceSub, Nat.zero_add, Nat.reduceAdd, Option.map_some, Option.map_none, Option.bind_some, if_true, List.length_map, List.length_range, e_setE0, e_setES, e_dOf, e_fzOf, e_fz, e_ow, e_gSl0, e_gSlS, e_gFz0, e_gFzS, e_kC, e_aNil, e_aCons, e_dLst, e_dTup, e_b2, e_pI, e_pAddI, e_pAddL, e_callD, e_bOf, e_bNot, e_bTru, e_truB, e_bAnd, e_bOr, e_vAnd, e_bYes, e_pLenL, e_pLenT, e_pAbs, e_pListOf, e_pIxL, e_pIxT, e_vIsi, e_iLst, e_iEnm, e_gNm, e_oNil, e_oSeq, e_oSet, e_oRet, e_oIf, e_oFor, e_oFrz, e_vLc, e_frz0w, e_frz0f, e_frzS, e_wipeN, e_wipeC, e_oRetV, e_oApp, e_oExt, e_iOwn, e_iOwnE, e_gTpl2, e_pEqI, e_pNeI, e_pNeB, e_pEqB, e_vChain, e_vNeg, e_vRev, e_oInt, e_dSl, e_vNot, e_vOr, e_vLc2, e_isiL, e_isiI, e_isiB, e_isBB, e_oPar, e_oAug, e_oRevS, e_vIf, e_gGh, e_vRepL, e_pInt1B, e_oAugIx, e_mUnp, e_mPar2, e_mPar3, e_xTup, e_xLst, e_allN, e_allC, e_mDrp2, e_gTpl3, e_oSwap, e_vCallT, e_xCallO, e_mIns, e_mSetIx, e_vLend, e_flatO, e_flatFB, e_flatFI, e_isB, e_isNotBB, e_oUnp, e_iZp, e_oSetIxM, e_oIns, e_oWhile, e_xPV, e_xP, e_xPB, e_xPI, e_xV, e_xFz, e_x2, e_x2N, e_xB, e_xGix, e_mNil, e_mSeq, e_mIf, e_mRet, e_mSet, e_mGset, e_mGaug, e_mLft, e_mFor, e_mApp, e_gaNil, e_gaV, e_gaG, e_xCallG, Nat.reduceLT, Nat.reduceLeDiff, lr, c1, lc]
def shs (B : Nat → List Int) (n : Nat) : List (List Int) := (List.range (n + 1)).map B
theorem rows_take (o : List (List Int)) (m : Nat) : (rows o).take m = rows (o.take m) := List.map_take.symm
theorem growth_spec {o : List (List Int)} (hl : o.length ≤ 14) {B : Nat → List Int} (G : Gr o B) : m_growth [.list (rows o)] = some (.ow (rows (shs B o.length))) := by
  have lr : (rows o).length = o.length := by unfold rows; rw [List.length_map]
  have cn : o.length + 1 < cap := by rw [cap_eq]; omega
  have it : iR1 (dOf (b2 pAdd (dOf (callD pLen (aCons (gSl 0) aNil))) (kC (.int 1)))) [some (.fz (.list (rows o))), none] = some ((List.range (o.length + 1)).map fun (k : Nat) => PyData.int (k : Int)) := iR1_nat (by simp only [List.map_cons, List.map_nil, List.length_cons, List.length_nil, List.replicate, List.cons_append, List.nil_append, List.getElem?_cons_zero, List.getElem?_cons_succ, List.set_cons_succ, List.set_cons_zero, Nat.reduceSub, Nat.zero_add, Nat.reduceAdd, Option.map_some, Option.map_none, Option.bind_some, if_true, List.length_map, List.length_range, e_setE0, e_setES, e_dOf, e_fzOf, e_fz, e_ow, e_gSl0, e_gSlS, e_gFz0, e_gFzS, e_kC, e_aNil, e_aCons, e_dLst, e_dTup, e_b2, e_pI, e_pAddI, e_pAddL, e_callD, e_bOf, e_bNot, e_bTru, e_truB, e_bAnd, e_bOr, e_vAnd, e_bYes, e_pLenL, e_pLenT, e_pAbs, e_pListOf, e_pIxL, e_pIxT, e_vIsi, e_iLst, e_iEnm, e_gNm, e_oNil, e_oSeq, e_oSet, e_oRet, e_oIf, e_oFor, e_oFrz, e_vLc, e_frz0w, e_frz0f, e_frzS, e_wipeN, e_wipeC, e_oRetV, e_oApp, e_oExt, e_iOwn, e_iOwnE, e_gTpl2, e_pEqI, e_pNeI, e_pNeB, e_pEqB, e_vChain, e_vNeg, e_vRev, e_oInt, e_dSl, e_vNot, e_vOr, e_vLc2, e_isiL, e_isiI, e_isiB, e_isBB, e_oPar, e_oAug, e_oRevS, e_vIf, e_gGh, e_vRepL, e_pInt1B, e_oAugIx, e_mUnp, e_mPar2, e_mPar3, e_xTup, e_xLst, e_allN, e_allC, e_mDrp2, e_gTpl3, e_oSwap, e_vCallT, e_xCallO, e_mIns, e_mSetIx, e_vLend, e_flatO, e_flatFB, e_flatFI, e_isB, e_isNotBB, e_oUnp, e_iZp, e_oSetIxM, e_oIns, e_oWhile, e_xPV, e_xP, e_xPB, e_xPI, e_xV, e_xFz, e_x2, e_x2N, e_xB, e_xGix, e_mNil, e_mSeq, e_mIf, e_mRet, e_mSet, e_mGset, e_mGaug, e_mLft, e_mFor, e_mApp, e_gaNil, e_gaV, e_gaG, e_xCallG, Nat.reduceLT, Nat.reduceLeDiff, lr]; rfl) (by omega)
  have one : ∀ m, m ∈ List.range (o.length + 1) → (gNm 1 (.int (m : Int)) [some (.fz (.list (rows o))), none]).bind (callD m_bands (aCons (dOf (dSl (gSl 0) (fun _ => some none) (oInt (gSl 1)))) aNil)) = some (.ow (nums (B m))) := fun m hm => by
    have sp := G.sp m (by have := List.mem_range.mp hm; omega)
    have ct := cut_take (rows o) m
    rw [rows_take] at ct
    generalize rows (o.take m) = RT at sp ct
    generalize m_bands = mb at sp
    generalize nums (B m) = NB at sp
    simp only [List.map_cons, List.map_nil, List.length_cons, List.length_nil, List.replicate, List.cons_append, List.nil_append, List.getElem?_cons_zero, List.getElem?_cons_succ, List.set_cons_succ, List.set_cons_zero, Nat.reduceSub, Nat.zero_add, Nat.reduceAdd, Option.map_some, Option.map_none, Option.bind_some, if_true, List.length_map, List.length_range, e_setE0, e_setES, e_dOf, e_fzOf, e_fz, e_ow, e_gSl0, e_gSlS, e_gFz0, e_gFzS, e_kC, e_aNil, e_aCons, e_dLst, e_dTup, e_b2, e_pI, e_pAddI, e_pAddL, e_callD, e_bOf, e_bNot, e_bTru, e_truB, e_bAnd, e_bOr, e_vAnd, e_bYes, e_pLenL, e_pLenT, e_pAbs, e_pListOf, e_pIxL, e_pIxT, e_vIsi, e_iLst, e_iEnm, e_gNm, e_oNil, e_oSeq, e_oSet, e_oRet, e_oIf, e_oFor, e_oFrz, e_vLc, e_frz0w, e_frz0f, e_frzS, e_wipeN, e_wipeC, e_oRetV, e_oApp, e_oExt, e_iOwn, e_iOwnE, e_gTpl2, e_pEqI, e_pNeI, e_pNeB, e_pEqB, e_vChain, e_vNeg, e_vRev, e_oInt, e_dSl, e_vNot, e_vOr, e_vLc2, e_isiL, e_isiI, e_isiB, e_isBB, e_oPar, e_oAug, e_oRevS, e_vIf, e_gGh, e_vRepL, e_pInt1B, e_oAugIx, e_mUnp, e_mPar2, e_mPar3, e_xTup, e_xLst, e_allN, e_allC, e_mDrp2, e_gTpl3, e_oSwap, e_vCallT, e_xCallO, e_mIns, e_mSetIx, e_vLend, e_flatO, e_flatFB, e_flatFI, e_isB, e_isNotBB, e_oUnp, e_iZp, e_oSetIxM, e_oIns, e_oWhile, e_xPV, e_xP, e_xPB, e_xPI, e_xV, e_xFz, e_x2, e_x2N, e_xB, e_xGix, e_mNil, e_mSeq, e_mIf, e_mRet, e_mSet, e_mGset, e_mGaug, e_mLft, e_mFor, e_mApp, e_gaNil, e_gaV, e_gaG, e_xCallG, Nat.reduceLT, Nat.reduceLeDiff, ct, sp]
  have lc : lcD (gNm 1) bYes (dOf (callD m_bands (aCons (dOf (dSl (gSl 0) (fun _ => some none) (oInt (gSl 1)))) aNil))) [some (.fz (.list (rows o))), none] ((List.range (o.length + 1)).map fun (k : Nat) => PyData.int (k : Int)) = some (rows (shs B o.length)) := by
    unfold shs
    conv => rhs; unfold rows; rw [List.map_map]
    refine lcD_map (fun (k : Nat) => PyData.int (k : Int)) _ _ fun m hm => ?_
    have := one m hm
    simp only [e_gNm, Option.bind_some] at this ⊢
    rw [e_dOf, this]; rfl
  unfold m_growth mirror g_growth startE
  generalize m_bands = mb at lc
  generalize rows (shs B o.length) = RS at lc
  generalize rows o = RO at it lc
  simp only [List.map_cons, List.map_nil, List.length_cons, List.length_nil, List.replicate, List.cons_append, List.nil_append, List.getElem?_cons_zero, List.getElem?_cons_succ, List.set_cons_succ, List.set_cons_zero, Nat.reduceSub, Nat.zero_add, Nat.reduceAdd, Option.map_some, Option.map_none, Option.bind_some, if_true, List.length_map, List.length_range, e_setE0, e_setES, e_dOf, e_fzOf, e_fz, e_ow, e_gSl0, e_gSlS, e_gFz0, e_gFzS, e_kC, e_aNil, e_aCons, e_dLst, e_dTup, e_b2, e_pI, e_pAddI, e_pAddL, e_callD, e_bOf, e_bNot, e_bTru, e_truB, e_bAnd, e_bOr, e_vAnd, e_bYes, e_pLenL, e_pLenT, e_pAbs, e_pListOf, e_pIxL, e_pIxT, e_vIsi, e_iLst, e_iEnm, e_gNm, e_oNil, e_oSeq, e_oSet, e_oRet, e_oIf, e_oFor, e_oFrz, e_vLc, e_frz0w, e_frz0f, e_frzS, e_wipeN, e_wipeC, e_oRetV, e_oApp, e_oExt, e_iOwn, e_iOwnE, e_gTpl2, e_pEqI, e_pNeI, e_pNeB, e_pEqB, e_vChain, e_vNeg, e_vRev, e_oInt, e_dSl, e_vNot, e_vOr, e_vLc2, e_isiL, e_isiI, e_isiB, e_isBB, e_oPar, e_oAug, e_oRevS, e_vIf, e_gGh, e_vRepL, e_pInt1B, e_oAugIx, e_mUnp, e_mPar2, e_mPar3, e_xTup, e_xLst, e_allN, e_allC, e_mDrp2, e_gTpl3, e_oSwap, e_vCallT, e_xCallO, e_mIns, e_mSetIx, e_vLend, e_flatO, e_flatFB, e_flatFI, e_isB, e_isNotBB, e_oUnp, e_iZp, e_oSetIxM, e_oIns, e_oWhile, e_xPV, e_xP, e_xPB, e_xPI, e_xV, e_xFz, e_x2, e_x2N, e_xB, e_xGix, e_mNil, e_mSeq, e_mIf, e_mRet, e_mSet, e_mGset, e_mGaug, e_mLft, e_mFor, e_mApp, e_gaNil, e_gaV, e_gaG, e_xCallG, Nat.reduceLT, Nat.reduceLeDiff, it, List.length_map, List.length_range, cn, lc]
theorem shs_at (B : Nat → List Int) {n m : Nat} (h : m ≤ n) : atI (rows (shs B n)) (m : Int) = some (.list (nums (B m))) := atI_rows (r := B m) (by omega) (by
  unfold shs
  rw [Int.toNat_natCast, List.getElem?_map, List.getElem?_range (by omega)]; rfl)
theorem shs_last (B : Nat → List Int) (n : Nat) : atI (rows (shs B n)) (-1) = some (.list (nums (B n))) := by
  have ln : (rows (shs B n)).length = n + 1 := by unfold rows shs; simp
  have e : ixN (n + 1) (-1) = some n := by
    unfold ixN
    rw [if_neg (by omega), if_pos (by omega)]
    congr 1
    omega
  unfold atI
  rw [ln, e, Option.bind_some]
  unfold rows shs
  rw [List.getElem?_map, List.getElem?_map, List.getElem?_range (by omega)]; rfl
theorem gw_ex {o : List (List Int)} {B : Nat → List Int} (G : Gr o B) : ∃ rr, Fl.Gw B rr o.length := by
  have ex : ∀ m, ∃ r, m < o.length → ∀ k, pre (B (m + 1)) k = pre (B m) k + if r < k then 1 else 0 := fun m => by
    by_cases h : m < o.length
    · obtain ⟨r, hr⟩ := G.bx m h
      exact ⟨r, fun _ => hr⟩
    · exact ⟨0, fun z => absurd z h⟩
  obtain ⟨rr, hr⟩ := Classical.axiomOfChoice ex
  refine ⟨rr, G.sh, ?_, fun m hm => hr m hm⟩
  have s := G.sm 0 (by omega)
  have sh := G.sh 0 (by omega)
  cases q : B 0 with
  | nil => rfl
  | cons x xs =>
    rw [q] at s sh
    rw [List.sum_cons] at s
    have := sh.2 x List.mem_cons_self
    have := sum_nn (s := xs) fun y hy => by have := sh.2 y (List.mem_cons_of_mem _ hy); omega
    omega
theorem forD2_range {ix : Nat} {b : En2 → Option Out2} {n : Nat} {emb : Nat → PyData} (I : Nat → En2 → Prop) (h : ∀ k Θ, k < n → I k Θ → ∃ Θ', b (Θ.set ix (some (.sl (.fz (emb k))))) = some (.nx Θ') ∧ I (k + 1) Θ') (Θ : En2) (h0 : I 0 Θ) : ∃ Θ', Bd.forD2 ix b ((List.range n).map emb) Θ = some (.nx Θ') ∧ I n Θ' := by
  have aux : ∀ d k Θ, k + d = n → I k Θ → ∃ Θ', Bd.forD2 ix b ((List.range' k d).map emb) Θ = some (.nx Θ') ∧ I n Θ' := fun d => by
    induction d with
    | zero => intro k Θ e hk; exact ⟨Θ, rfl, by rw [Nat.add_zero] at e; subst e; exact hk⟩
    | succ d ih =>
      intro k Θ e hk
      obtain ⟨Θ1, e1, h1⟩ := h k Θ (by omega) hk
      obtain ⟨Θ2, e2, h2⟩ := ih (k + 1) Θ1 (by omega) h1
      refine ⟨Θ2, ?_, h2⟩
      rw [List.range'_succ, List.map_cons]
      unfold Bd.forD2
      rw [e1]
      exact e2
  rw [List.range_eq_range']
  exact aux n 0 Θ (by omega) h0
theorem appAt_ok {Θ : En2} {j k : Nat} {fi f : En → Option PyData} {xss : List (List PyData)} {d : PyData} {xs : List PyData} (h1 : Θ[j]? = some (some (.dw xss))) (h2 : fi (prj Θ) = some (.int (k : Int))) (h3 : f (prj Θ) = some d) (h4 : xss[k]? = some xs) (h5 : xs.length < cap) : oAppAt j fi f Θ = some (.nx (Θ.set j (some (.dw (xss.set k (xs ++ [d])))))) := by
  unfold oAppAt
  have lk : k < xss.length := (List.getElem?_eq_some_iff.mp h4).1
  rw [h1, h2, h3]
  dsimp only
  rw [ixN_nat' lk, Option.bind_some, h4, Option.bind_some, if_pos h5]
def tD (rr : Nat → Nat) (w m : Nat) : List (List PyData) := (Fl.tabI rr w m).map nums
theorem tD_get {rr : Nat → Nat} {w m i : Nat} (h : i < w) : (tD rr w m)[i]? = some (nums ((Fl.rowN rr i m).map fun (t : Nat) => (t : Int))) := by
  unfold tD
  rw [List.getElem?_map, Fl.tabI_get h]; rfl
theorem tD_set {rr : Nat → Nat} {w m : Nat} (h : rr m < w) : (tD rr w m).set (rr m) (nums ((Fl.rowN rr (rr m) m).map fun (t : Nat) => (t : Int)) ++ [.int (m : Int)]) = tD rr w (m + 1) := by
  unfold tD
  rw [← Fl.tabI_set h, List.map_set]
  unfold nums
  rw [List.map_append]; rfl
theorem row_cap {rr : Nat → Nat} {i m : Nat} (h : m ≤ 20) : (nums ((Fl.rowN rr i m).map fun (t : Nat) => (t : Int))).length < cap := by
  unfold nums
  rw [List.length_map, List.length_map, cap_eq]
  have : (Fl.rowN rr i m).length ≤ m := by
    unfold Fl.rowN
    have := List.length_filter_le (fun t => decide (rr t = i)) (List.range m)
    rwa [List.length_range] at this
  omega
theorem stairs_spec {o : List (List Int)} (hl : o.length ≤ 14) {B : Nat → List Int} (G : Gr o B) {rr : Nat → Nat} (W : Fl.Gw B rr o.length) : mD_stairs [.list (rows o)] = some (tD rr (B o.length).length o.length) := by
  have gs := growth_spec hl G
  have lr : (rows o).length = o.length := by unfold rows; rw [List.length_map]
  have sl := shs_last B o.length
  have lB := G.ln o.length (Nat.le_refl _)
  have cB : (nums (B o.length)).length < cap := by unfold nums; rw [List.length_map, cap_eq]; omega
  have c0 : (0 : Nat) ≤ cap := Nat.zero_le _
  have lc : lcDD (gNm 3) bYes (dLst aNil) [some (.fz (.list (rows o))), some (.fz (.list (rows (shs B o.length)))), none, none, none] (nums (B o.length)) = some (tD rr (B o.length).length 0) := by
    have e : tD rr (B o.length).length 0 = (B o.length).map fun _ => [] := by
      unfold tD Fl.tabI
      rw [List.map_map]
      apply List.ext_getElem?
      intro i
      rw [List.getElem?_map, List.getElem?_map]
      by_cases q : i < (B o.length).length
      · rw [List.getElem?_range q, List.getElem?_eq_getElem q]; rfl
      · rw [List.getElem?_eq_none (by simpa using q), List.getElem?_eq_none (by omega)]; rfl
    rw [e]
    have key : ∀ Γ : En, (∀ x ∈ B o.length, (gNm 3 (.int x) Γ).bind (dLst aNil) = some (.ow [])) → lcDD (gNm 3) bYes (dLst aNil) Γ (nums (B o.length)) = some ((B o.length).map fun _ => []) := fun Γ hk => lcDD_map PyData.int _ _ hk
    refine key _ fun x _ => ?_
    generalize rows o = RO
    generalize rows (shs B o.length) = RS
    simp only [List.map_cons, List.map_nil, List.length_cons, List.length_nil, List.replicate, List.cons_append, List.nil_append, List.getElem?_cons_zero, List.getElem?_cons_succ, List.set_cons_succ, List.set_cons_zero, Nat.reduceSub, Nat.zero_add, Nat.reduceAdd, Option.map_some, Option.map_none, Option.bind_some, if_true, List.length_map, List.length_range, e_setE0, e_setES, e_dOf, e_fzOf, e_fz, e_ow, e_gSl0, e_gSlS, e_gFz0, e_gFzS, e_kC, e_aNil, e_aCons, e_dLst, e_dTup, e_b2, e_pI, e_pAddI, e_pAddL, e_callD, e_bOf, e_bNot, e_bTru, e_truB, e_bAnd, e_bOr, e_vAnd, e_bYes, e_pLenL, e_pLenT, e_pAbs, e_pListOf, e_pIxL, e_pIxT, e_vIsi, e_iLst, e_iEnm, e_gNm, e_oNil, e_oSeq, e_oSet, e_oRet, e_oIf, e_oFor, e_oFrz, e_vLc, e_frz0w, e_frz0f, e_frzS, e_wipeN, e_wipeC, e_oRetV, e_oApp, e_oExt, e_iOwn, e_iOwnE, e_gTpl2, e_pEqI, e_pNeI, e_pNeB, e_pEqB, e_vChain, e_vNeg, e_vRev, e_oInt, e_dSl, e_vNot, e_vOr, e_vLc2, e_isiL, e_isiI, e_isiB, e_isBB, e_oPar, e_oAug, e_oRevS, e_vIf, e_gGh, e_vRepL, e_pInt1B, e_oAugIx, e_mUnp, e_mPar2, e_mPar3, e_xTup, e_xLst, e_allN, e_allC, e_mDrp2, e_gTpl3, e_oSwap, e_vCallT, e_xCallO, e_mIns, e_mSetIx, e_vLend, e_flatO, e_flatFB, e_flatFI, e_isB, e_isNotBB, e_oUnp, e_iZp, e_oSetIxM, e_oIns, e_oWhile, e_xPV, e_xP, e_xPB, e_xPI, e_xV, e_xFz, e_x2, e_x2N, e_xB, e_xGix, e_mNil, e_mSeq, e_mIf, e_mRet, e_mSet, e_mGset, e_mGaug, e_mLft, e_mFor, e_mApp, e_gaNil, e_gaV, e_gaG, e_xCallG, Nat.reduceLT, Nat.reduceLeDiff, c0]
  have hflat : (tD rr (B o.length).length 0).all (fun xs => xs.all flatD) = true := by
    rw [List.all_eq_true]
    intro xs hx
    unfold tD at hx
    obtain ⟨r, hr, rfl⟩ := List.mem_map.mp hx
    exact flat_nums r
  have it : ∀ y1 y2 y3 y4, iR1 (dOf (callD pLen (aCons (gSl 0) aNil))) [some (.fz (.list (rows o))), y1, y2, y3, y4] = some ((List.range o.length).map fun (k : Nat) => PyData.int (k : Int)) := fun y1 y2 y3 y4 => iR1_nat (by simp only [List.map_cons, List.map_nil, List.length_cons, List.length_nil, List.replicate, List.cons_append, List.nil_append, List.getElem?_cons_zero, List.getElem?_cons_succ, List.set_cons_succ, List.set_cons_zero, Nat.reduceSub, Nat.zero_add, Nat.reduceAdd, Option.map_some, Option.map_none, Option.bind_some, if_true, List.length_map, List.length_range, e_setE0, e_setES, e_dOf, e_fzOf, e_fz, e_ow, e_gSl0, e_gSlS, e_gFz0, e_gFzS, e_kC, e_aNil, e_aCons, e_dLst, e_dTup, e_b2, e_pI, e_pAddI, e_pAddL, e_callD, e_bOf, e_bNot, e_bTru, e_truB, e_bAnd, e_bOr, e_vAnd, e_bYes, e_pLenL, e_pLenT, e_pAbs, e_pListOf, e_pIxL, e_pIxT, e_vIsi, e_iLst, e_iEnm, e_gNm, e_oNil, e_oSeq, e_oSet, e_oRet, e_oIf, e_oFor, e_oFrz, e_vLc, e_frz0w, e_frz0f, e_frzS, e_wipeN, e_wipeC, e_oRetV, e_oApp, e_oExt, e_iOwn, e_iOwnE, e_gTpl2, e_pEqI, e_pNeI, e_pNeB, e_pEqB, e_vChain, e_vNeg, e_vRev, e_oInt, e_dSl, e_vNot, e_vOr, e_vLc2, e_isiL, e_isiI, e_isiB, e_isBB, e_oPar, e_oAug, e_oRevS, e_vIf, e_gGh, e_vRepL, e_pInt1B, e_oAugIx, e_mUnp, e_mPar2, e_mPar3, e_xTup, e_xLst, e_allN, e_allC, e_mDrp2, e_gTpl3, e_oSwap, e_vCallT, e_xCallO, e_mIns, e_mSetIx, e_vLend, e_flatO, e_flatFB, e_flatFI, e_isB, e_isNotBB, e_oUnp, e_iZp, e_oSetIxM, e_oIns, e_oWhile, e_xPV, e_xP, e_xPB, e_xPI, e_xV, e_xFz, e_x2, e_x2N, e_xB, e_xGix, e_mNil, e_mSeq, e_mIf, e_mRet, e_mSet, e_mGset, e_mGaug, e_mLft, e_mFor, e_mApp, e_gaNil, e_gaV, e_gaG, e_xCallG, Nat.reduceLT, Nat.reduceLeDiff, lr]) (by omega)
  obtain ⟨Θ', lp, y4, rfl⟩ := forD2_range (ix := 4) (b := g2_stairs_b1) (n := o.length) (emb := fun (k : Nat) => PyData.int (k : Int))
    (fun k Θ => ∃ y4, Θ = [some (.sl (.fz (.list (rows o)))), some (.sl (.fz (.list (rows (shs B o.length))))), some (.dw (tD rr (B o.length).length k)), none, y4])
    (fun k Θ hk hp => by
      obtain ⟨y4, rfl⟩ := hp
      refine ⟨[some (.sl (.fz (.list (rows o)))), some (.sl (.fz (.list (rows (shs B o.length))))), some (.dw (tD rr (B o.length).length (k + 1))), none, some (.sl (.fz (.int (k : Int))))], ?_, _, rfl⟩
      have a1 := shs_at B (n := o.length) (m := k) (by omega)
      have a2 : atI (rows (shs B o.length)) ((k : Int) + 1) = some (.list (nums (B (k + 1)))) := shs_at B (n := o.length) (m := k + 1) (by omega)
      have bo := box_ok (W.bx k hk) (G.sh k (by omega)) (by have := G.ln k (by omega); omega) (by have := G.ln (k + 1) (by omega); omega)
      have rl := W.rr_lt (Nat.le_refl _) k hk
      have st := tD_set (rr := rr) (m := k) rl
      have ap := appAt_ok (Θ := [some (.sl (.fz (.list (rows o)))), some (.sl (.fz (.list (rows (shs B o.length))))), some (.dw (tD rr (B o.length).length k)), none, some (.sl (.fz (.int (k : Int))))]) (j := 2) (k := rr k) (fi := dOf (callD (okD mX_box_at) (aCons (dOf (b2 pIx (gSl 1) (gSl 4))) (aCons (dOf (b2 pIx (gSl 1) (dOf (b2 pAdd (gSl 4) (kC (.int 1)))))) aNil)))) (f := gFz 4) (d := .int (k : Int)) rfl (by
        show dOf _ [some (.fz (.list (rows o))), some (.fz (.list (rows (shs B o.length)))), none, none, some (.fz (.int (k : Int)))] = _
        generalize okD mX_box_at = ob at bo
        generalize rows (shs B o.length) = RS at a1 a2
        generalize nums (B (k + 1)) = N1 at a2 bo
        generalize nums (B k) = N0 at a1 bo
        generalize rows o = RO
        simp only [List.map_cons, List.map_nil, List.length_cons, List.length_nil, List.replicate, List.cons_append, List.nil_append, List.getElem?_cons_zero, List.getElem?_cons_succ, List.set_cons_succ, List.set_cons_zero, Nat.reduceSub, Nat.zero_add, Nat.reduceAdd, Option.map_some, Option.map_none, Option.bind_some, if_true, List.length_map, List.length_range, e_setE0, e_setES, e_dOf, e_fzOf, e_fz, e_ow, e_gSl0, e_gSlS, e_gFz0, e_gFzS, e_kC, e_aNil, e_aCons, e_dLst, e_dTup, e_b2, e_pI, e_pAddI, e_pAddL, e_callD, e_bOf, e_bNot, e_bTru, e_truB, e_bAnd, e_bOr, e_vAnd, e_bYes, e_pLenL, e_pLenT, e_pAbs, e_pListOf, e_pIxL, e_pIxT, e_vIsi, e_iLst, e_iEnm, e_gNm, e_oNil, e_oSeq, e_oSet, e_oRet, e_oIf, e_oFor, e_oFrz, e_vLc, e_frz0w, e_frz0f, e_frzS, e_wipeN, e_wipeC, e_oRetV, e_oApp, e_oExt, e_iOwn, e_iOwnE, e_gTpl2, e_pEqI, e_pNeI, e_pNeB, e_pEqB, e_vChain, e_vNeg, e_vRev, e_oInt, e_dSl, e_vNot, e_vOr, e_vLc2, e_isiL, e_isiI, e_isiB, e_isBB, e_oPar, e_oAug, e_oRevS, e_vIf, e_gGh, e_vRepL, e_pInt1B, e_oAugIx, e_mUnp, e_mPar2, e_mPar3, e_xTup, e_xLst, e_allN, e_allC, e_mDrp2, e_gTpl3, e_oSwap, e_vCallT, e_xCallO, e_mIns, e_mSetIx, e_vLend, e_flatO, e_flatFB, e_flatFI, e_isB, e_isNotBB, e_oUnp, e_iZp, e_oSetIxM, e_oIns, e_oWhile, e_xPV, e_xP, e_xPB, e_xPI, e_xV, e_xFz, e_x2, e_x2N, e_xB, e_xGix, e_mNil, e_mSeq, e_mIf, e_mRet, e_mSet, e_mGset, e_mGaug, e_mLft, e_mFor, e_mApp, e_gaNil, e_gaV, e_gaG, e_xCallG, Nat.reduceLT, Nat.reduceLeDiff, a1, a2, bo]) rfl (tD_get rl) (row_cap (by omega))
      rw [st] at ap
      unfold g2_stairs_b1
      generalize (oAppAt _ _ _ : En2 → Option Out2) = AA at ap ⊢
      generalize tD rr (B o.length).length k = T0 at ap
      generalize tD rr (B o.length).length (k + 1) = T1 at ap
      rw [e_oSeq2]
      replace ap : AA ([some (.sl (.fz (.list (rows o)))), some (.sl (.fz (.list (rows (shs B o.length))))), some (.dw T0), none, y4].set 4 (some (.sl (.fz (.int (k : Int)))))) = some (.nx [some (.sl (.fz (.list (rows o)))), some (.sl (.fz (.list (rows (shs B o.length))))), some (.dw T1), none, some (.sl (.fz (.int (k : Int))))]) := ap
      rw [ap]
      rfl) [some (.sl (.fz (.list (rows o)))), some (.sl (.fz (.list (rows (shs B o.length))))), some (.dw (tD rr (B o.length).length 0)), none, none] ⟨none, rfl⟩
  unfold mD_stairs mirrorD gD_stairs
  rw [start2_1]
  generalize m_growth = mg' at gs
  generalize g2_stairs_b1 = b1 at lp
  generalize tD rr (B o.length).length 0 = T0 at lc hflat lp
  generalize tD rr (B o.length).length o.length = T1 at lp
  generalize rows (shs B o.length) = RS at gs sl lc lp
  generalize nums (B o.length) = NB at sl cB lc
  generalize rows o = RO at gs it lc lp lr
  simp only [List.map_cons, List.map_nil, List.length_cons, List.length_nil, List.replicate, List.cons_append, List.nil_append, List.getElem?_cons_zero, List.getElem?_cons_succ, List.set_cons_succ, List.set_cons_zero, Nat.reduceSub, Nat.zero_add, Nat.reduceAdd, Option.map_some, Option.map_none, Option.bind_some, if_true, List.length_map, List.length_range, e_setE0, e_setES, e_dOf, e_fzOf, e_fz, e_ow, e_gSl0, e_gSlS, e_gFz0, e_gFzS, e_kC, e_aNil, e_aCons, e_dLst, e_dTup, e_b2, e_pI, e_pAddI, e_pAddL, e_callD, e_bOf, e_bNot, e_bTru, e_truB, e_bAnd, e_bOr, e_vAnd, e_bYes, e_pLenL, e_pLenT, e_pAbs, e_pListOf, e_pIxL, e_pIxT, e_vIsi, e_iLst, e_iEnm, e_gNm, e_oNil, e_oSeq, e_oSet, e_oRet, e_oIf, e_oFor, e_oFrz, e_vLc, e_frz0w, e_frz0f, e_frzS, e_wipeN, e_wipeC, e_oRetV, e_oApp, e_oExt, e_iOwn, e_iOwnE, e_gTpl2, e_pEqI, e_pNeI, e_pNeB, e_pEqB, e_vChain, e_vNeg, e_vRev, e_oInt, e_dSl, e_vNot, e_vOr, e_vLc2, e_isiL, e_isiI, e_isiB, e_isBB, e_oPar, e_oAug, e_oRevS, e_vIf, e_gGh, e_vRepL, e_pInt1B, e_oAugIx, e_mUnp, e_mPar2, e_mPar3, e_xTup, e_xLst, e_allN, e_allC, e_mDrp2, e_gTpl3, e_oSwap, e_vCallT, e_xCallO, e_mIns, e_mSetIx, e_vLend, e_flatO, e_flatFB, e_flatFI, e_isB, e_isNotBB, e_oUnp, e_iZp, e_oSetIxM, e_oIns, e_oWhile, e_xPV, e_xP, e_xPB, e_xPI, e_xV, e_xFz, e_x2, e_x2N, e_xB, e_xGix, e_mNil, e_mSeq, e_mIf, e_mRet, e_mSet, e_mGset, e_mGaug, e_mLft, e_mFor, e_mApp, e_gaNil, e_gaV, e_gaG, e_xCallG, Nat.reduceLT, Nat.reduceLeDiff, e_prjN, e_prj0, e_prjS, e_prjD, e_vwN, e_vw0, e_vwS, e_vwD, e_mrgN, e_mrg0, e_mrgS, e_mrgD, e_dwOkN, e_dwOk0, e_dwOkS, e_dwOkD, e_thwN, e_thw0, e_thwS, e_thwD, e_oNil2, e_oSeq2, e_lft, e_vwG, e_oRetD, e_oSetD, e_vSetD, e_callDD, e_vLcD, e_flatB, e_flatI, e_upN, e_upC, e_oFor2, e_oIfA, e_oRevL, e_oAppL, gs, sl, cB, lc, hflat, it, e_oFor2, lp]
  rfl
theorem forD_pre {g : PyData → En → Option En} {body : En → Option Out} {n : Nat} {emb : Nat → PyData} (I : Nat → En → Prop) (h : ∀ k Γ, k < n → I k Γ → ∃ Γ', (g (emb k) Γ).bind body = some (.nx Γ') ∧ I (k + 1) Γ') (Γ : En) (h0 : I 0 Γ) : ∃ Γ', I n Γ' ∧ ∀ ys, Bd.forD g body ((List.range n).map emb ++ ys) Γ = Bd.forD g body ys Γ' := by
  have aux : ∀ d k Γ, k + d = n → I k Γ → ∃ Γ', I n Γ' ∧ ∀ ys, Bd.forD g body ((List.range' k d).map emb ++ ys) Γ = Bd.forD g body ys Γ' := fun d => by
    induction d with
    | zero => intro k Γ e hk; exact ⟨Γ, by rw [Nat.add_zero] at e; subst e; exact hk, fun ys => rfl⟩
    | succ d ih =>
      intro k Γ e hk
      obtain ⟨Γ1, e1, h1⟩ := h k Γ (by omega) hk
      obtain ⟨Γ2, h2, e2⟩ := ih (k + 1) Γ1 (by omega) h1
      refine ⟨Γ2, h2, fun ys => ?_⟩
      rw [List.range'_succ, List.map_cons, List.cons_append]
      conv => lhs; unfold Bd.forD
      cases q : g (emb k) Γ with
      | none => rw [q] at e1; cases e1
      | some Γ3 =>
        rw [q, Option.bind_some] at e1
        rw [Option.bind_some, e1]
        exact e2 ys
  rw [List.range_eq_range']
  exact aux n 0 Γ (by omega) h0
theorem grown_spec {a b : List Int} {r : Nat} (h : ∀ k, pre b k = pre a k + if r < k then 1 else 0) (sa : IsShp a) (sb : IsShp b) (ra : r ≤ a.length) (lb : b.length = max a.length (r + 1)) (la : a.length ≤ 100) : m_law_grown_at [.list (nums a), .list (nums b)] = some (.fz (.int (r : Int))) := by
  have hg := box_get h
  have ln : (nums a).length = a.length := List.length_map ..
  have it : ∀ y2, iR1 (dOf (callD pLen (aCons (gSl 0) aNil))) [some (.fz (.list (nums a))), some (.fz (.list (nums b))), y2] = some ((List.range a.length).map fun (k : Nat) => PyData.int (k : Int)) := fun y2 => iR1_nat (by
    generalize nums a = A at ln
    simp only [List.map_cons, List.map_nil, List.length_cons, List.length_nil, List.replicate, List.cons_append, List.nil_append, List.getElem?_cons_zero, List.getElem?_cons_succ, List.set_cons_succ, List.set_cons_zero, Nat.reduceSub, Nat.zero_add, Nat.reduceAdd, Option.map_some, Option.map_none, Option.bind_some, if_true, List.length_map, List.length_range, e_setE0, e_setES, e_dOf, e_fzOf, e_fz, e_ow, e_gSl0, e_gSlS, e_gFz0, e_gFzS, e_kC, e_aNil, e_aCons, e_dLst, e_dTup, e_b2, e_pI, e_pAddI, e_pAddL, e_callD, e_bOf, e_bNot, e_bTru, e_truB, e_bAnd, e_bOr, e_vAnd, e_bYes, e_pLenL, e_pLenT, e_pAbs, e_pListOf, e_pIxL, e_pIxT, e_vIsi, e_iLst, e_iEnm, e_gNm, e_oNil, e_oSeq, e_oSet, e_oRet, e_oIf, e_oFor, e_oFrz, e_vLc, e_frz0w, e_frz0f, e_frzS, e_wipeN, e_wipeC, e_oRetV, e_oApp, e_oExt, e_iOwn, e_iOwnE, e_gTpl2, e_pEqI, e_pNeI, e_pNeB, e_pEqB, e_vChain, e_vNeg, e_vRev, e_oInt, e_dSl, e_vNot, e_vOr, e_vLc2, e_isiL, e_isiI, e_isiB, e_isBB, e_oPar, e_oAug, e_oRevS, e_vIf, e_gGh, e_vRepL, e_pInt1B, e_oAugIx, e_mUnp, e_mPar2, e_mPar3, e_xTup, e_xLst, e_allN, e_allC, e_mDrp2, e_gTpl3, e_oSwap, e_vCallT, e_xCallO, e_mIns, e_mSetIx, e_vLend, e_flatO, e_flatFB, e_flatFI, e_isB, e_isNotBB, e_oUnp, e_iZp, e_oSetIxM, e_oIns, e_oWhile, e_xPV, e_xP, e_xPB, e_xPI, e_xV, e_xFz, e_x2, e_x2N, e_xB, e_xGix, e_mNil, e_mSeq, e_mIf, e_mRet, e_mSet, e_mGset, e_mGaug, e_mLft, e_mFor, e_mApp, e_gaNil, e_gaV, e_gaG, e_xCallG, Nat.reduceLT, Nat.reduceLeDiff, ln]) (by omega)
  have ata : ∀ k, k < a.length → atI (nums a) (k : Int) = some (.int (a.getD k 0)) := fun k hk => atI_ints (by omega) (by rw [Int.toNat_natCast]; exact getD_at hk)
  have atb : ∀ k, k < a.length → atI (nums b) (k : Int) = some (.int (b.getD k 0)) := fun k hk => atI_ints (by omega) (by rw [Int.toNat_natCast]; exact getD_at (by omega))
  obtain ⟨Γ', ⟨y2, rfl⟩, pr⟩ := forD_pre (g := gNm 2) (body := g_law_grown_at_b1) (n := r) (emb := fun (k : Nat) => PyData.int (k : Int))
    (fun k Γ => ∃ y2, Γ = [some (.fz (.list (nums a))), some (.fz (.list (nums b))), y2])
    (fun k Γ hk hp => by
      obtain ⟨y2, rfl⟩ := hp
      refine ⟨[some (.fz (.list (nums a))), some (.fz (.list (nums b))), some (.fz (.int (k : Int)))], ?_, _, rfl⟩
      have a1 := ata k (by omega)
      have a2 := atb k (by omega)
      have e := hg k
      rw [if_neg (by omega), Int.add_zero] at e
      rw [e] at a2
      unfold g_law_grown_at_b1
      generalize nums a = A at a1
      generalize nums b = B at a2
      generalize a.getD k 0 = u at a1 a2
      have pe : (u == u) = true := beq_self_eq_true u
      simp only [List.map_cons, List.map_nil, List.length_cons, List.length_nil, List.replicate, List.cons_append, List.nil_append, List.getElem?_cons_zero, List.getElem?_cons_succ, List.set_cons_succ, List.set_cons_zero, Nat.reduceSub, Nat.zero_add, Nat.reduceAdd, Option.map_some, Option.map_none, Option.bind_some, if_true, List.length_map, List.length_range, e_setE0, e_setES, e_dOf, e_fzOf, e_fz, e_ow, e_gSl0, e_gSlS, e_gFz0, e_gFzS, e_kC, e_aNil, e_aCons, e_dLst, e_dTup, e_b2, e_pI, e_pAddI, e_pAddL, e_callD, e_bOf, e_bNot, e_bTru, e_truB, e_bAnd, e_bOr, e_vAnd, e_bYes, e_pLenL, e_pLenT, e_pAbs, e_pListOf, e_pIxL, e_pIxT, e_vIsi, e_iLst, e_iEnm, e_gNm, e_oNil, e_oSeq, e_oSet, e_oRet, e_oIf, e_oFor, e_oFrz, e_vLc, e_frz0w, e_frz0f, e_frzS, e_wipeN, e_wipeC, e_oRetV, e_oApp, e_oExt, e_iOwn, e_iOwnE, e_gTpl2, e_pEqI, e_pNeI, e_pNeB, e_pEqB, e_vChain, e_vNeg, e_vRev, e_oInt, e_dSl, e_vNot, e_vOr, e_vLc2, e_isiL, e_isiI, e_isiB, e_isBB, e_oPar, e_oAug, e_oRevS, e_vIf, e_gGh, e_vRepL, e_pInt1B, e_oAugIx, e_mUnp, e_mPar2, e_mPar3, e_xTup, e_xLst, e_allN, e_allC, e_mDrp2, e_gTpl3, e_oSwap, e_vCallT, e_xCallO, e_mIns, e_mSetIx, e_vLend, e_flatO, e_flatFB, e_flatFI, e_isB, e_isNotBB, e_oUnp, e_iZp, e_oSetIxM, e_oIns, e_oWhile, e_xPV, e_xP, e_xPB, e_xPI, e_xV, e_xFz, e_x2, e_x2N, e_xB, e_xGix, e_mNil, e_mSeq, e_mIf, e_mRet, e_mSet, e_mGset, e_mGaug, e_mLft, e_mFor, e_mApp, e_gaNil, e_gaV, e_gaG, e_xCallG, Nat.reduceLT, Nat.reduceLeDiff, a1, a2, pe, Bool.not_true]) [some (.fz (.list (nums a))), some (.fz (.list (nums b))), none] ⟨none, rfl⟩
  unfold m_law_grown_at mirror g_law_grown_at startE
  by_cases q : r < a.length
  · obtain ⟨d, hd⟩ : ∃ d, a.length = r + (d + 1) := ⟨a.length - r - 1, by omega⟩
    have e : (List.range a.length).map (fun (k : Nat) => PyData.int (k : Int)) = (List.range r).map (fun (k : Nat) => PyData.int (k : Int)) ++ (.int (r : Int) :: ((List.range d).map fun (k : Nat) => PyData.int ((r + (k + 1) : Nat) : Int))) := by
      rw [hd, List.range_add, List.map_append, List.range_succ_eq_map, List.map_cons, List.map_cons, List.map_map, List.map_map]
      rfl
    have a1 := ata r q
    have a2 := atb r q
    have eb := hg r
    rw [if_pos rfl] at eb
    rw [eb] at a2
    have lp : Bd.forD (gNm 2) g_law_grown_at_b1 ((List.range a.length).map fun (k : Nat) => PyData.int (k : Int)) [some (.fz (.list (nums a))), some (.fz (.list (nums b))), none] = some (.rt (.fz (.int (r : Int)))) := by
      rw [e, pr]
      unfold Bd.forD g_law_grown_at_b1
      generalize nums a = A at a1
      generalize nums b = B at a2
      generalize a.getD r 0 = u at a1 a2
      have pe : (u == u + 1) = false := by
        cases z : (u == u + 1)
        · rfl
        · have := eq_of_beq z; omega
      simp only [List.map_cons, List.map_nil, List.length_cons, List.length_nil, List.replicate, List.cons_append, List.nil_append, List.getElem?_cons_zero, List.getElem?_cons_succ, List.set_cons_succ, List.set_cons_zero, Nat.reduceSub, Nat.zero_add, Nat.reduceAdd, Option.map_some, Option.map_none, Option.bind_some, if_true, List.length_map, List.length_range, e_setE0, e_setES, e_dOf, e_fzOf, e_fz, e_ow, e_gSl0, e_gSlS, e_gFz0, e_gFzS, e_kC, e_aNil, e_aCons, e_dLst, e_dTup, e_b2, e_pI, e_pAddI, e_pAddL, e_callD, e_bOf, e_bNot, e_bTru, e_truB, e_bAnd, e_bOr, e_vAnd, e_bYes, e_pLenL, e_pLenT, e_pAbs, e_pListOf, e_pIxL, e_pIxT, e_vIsi, e_iLst, e_iEnm, e_gNm, e_oNil, e_oSeq, e_oSet, e_oRet, e_oIf, e_oFor, e_oFrz, e_vLc, e_frz0w, e_frz0f, e_frzS, e_wipeN, e_wipeC, e_oRetV, e_oApp, e_oExt, e_iOwn, e_iOwnE, e_gTpl2, e_pEqI, e_pNeI, e_pNeB, e_pEqB, e_vChain, e_vNeg, e_vRev, e_oInt, e_dSl, e_vNot, e_vOr, e_vLc2, e_isiL, e_isiI, e_isiB, e_isBB, e_oPar, e_oAug, e_oRevS, e_vIf, e_gGh, e_vRepL, e_pInt1B, e_oAugIx, e_mUnp, e_mPar2, e_mPar3, e_xTup, e_xLst, e_allN, e_allC, e_mDrp2, e_gTpl3, e_oSwap, e_vCallT, e_xCallO, e_mIns, e_mSetIx, e_vLend, e_flatO, e_flatFB, e_flatFI, e_isB, e_isNotBB, e_oUnp, e_iZp, e_oSetIxM, e_oIns, e_oWhile, e_xPV, e_xP, e_xPB, e_xPI, e_xV, e_xFz, e_x2, e_x2N, e_xB, e_xGix, e_mNil, e_mSeq, e_mIf, e_mRet, e_mSet, e_mGset, e_mGaug, e_mLft, e_mFor, e_mApp, e_gaNil, e_gaV, e_gaG, e_xCallG, Nat.reduceLT, Nat.reduceLeDiff, a1, a2, pe, Bool.not_false]
    generalize g_law_grown_at_b1 = b1 at lp
    generalize nums a = A at it lp
    generalize nums b = B at it lp
    simp only [List.map_cons, List.map_nil, List.length_cons, List.length_nil, List.replicate, List.cons_append, List.nil_append, List.getElem?_cons_zero, List.getElem?_cons_succ, List.set_cons_succ, List.set_cons_zero, Nat.reduceSub, Nat.zero_add, Nat.reduceAdd, Option.map_some, Option.map_none, Option.bind_some, if_true, List.length_map, List.length_range, e_setE0, e_setES, e_dOf, e_fzOf, e_fz, e_ow, e_gSl0, e_gSlS, e_gFz0, e_gFzS, e_kC, e_aNil, e_aCons, e_dLst, e_dTup, e_b2, e_pI, e_pAddI, e_pAddL, e_callD, e_bOf, e_bNot, e_bTru, e_truB, e_bAnd, e_bOr, e_vAnd, e_bYes, e_pLenL, e_pLenT, e_pAbs, e_pListOf, e_pIxL, e_pIxT, e_vIsi, e_iLst, e_iEnm, e_gNm, e_oNil, e_oSeq, e_oSet, e_oRet, e_oIf, e_oFor, e_oFrz, e_vLc, e_frz0w, e_frz0f, e_frzS, e_wipeN, e_wipeC, e_oRetV, e_oApp, e_oExt, e_iOwn, e_iOwnE, e_gTpl2, e_pEqI, e_pNeI, e_pNeB, e_pEqB, e_vChain, e_vNeg, e_vRev, e_oInt, e_dSl, e_vNot, e_vOr, e_vLc2, e_isiL, e_isiI, e_isiB, e_isBB, e_oPar, e_oAug, e_oRevS, e_vIf, e_gGh, e_vRepL, e_pInt1B, e_oAugIx, e_mUnp, e_mPar2, e_mPar3, e_xTup, e_xLst, e_allN, e_allC, e_mDrp2, e_gTpl3, e_oSwap, e_vCallT, e_xCallO, e_mIns, e_mSetIx, e_vLend, e_flatO, e_flatFB, e_flatFI, e_isB, e_isNotBB, e_oUnp, e_iZp, e_oSetIxM, e_oIns, e_oWhile, e_xPV, e_xP, e_xPB, e_xPI, e_xV, e_xFz, e_x2, e_x2N, e_xB, e_xGix, e_mNil, e_mSeq, e_mIf, e_mRet, e_mSet, e_mGset, e_mGaug, e_mLft, e_mFor, e_mApp, e_gaNil, e_gaV, e_gaG, e_xCallG, Nat.reduceLT, Nat.reduceLeDiff, it, lp]
  · have e := pr []
    rw [List.append_nil, show r = a.length by omega] at e
    replace e : Bd.forD (gNm 2) g_law_grown_at_b1 ((List.range a.length).map fun (k : Nat) => PyData.int (k : Int)) [some (.fz (.list (nums a))), some (.fz (.list (nums b))), none] = some (.nx [some (.fz (.list (nums a))), some (.fz (.list (nums b))), y2]) := e
    rw [show r = a.length by omega]
    generalize g_law_grown_at_b1 = b1 at e
    generalize nums a = A at it e ln
    generalize nums b = B at it e
    simp only [List.map_cons, List.map_nil, List.length_cons, List.length_nil, List.replicate, List.cons_append, List.nil_append, List.getElem?_cons_zero, List.getElem?_cons_succ, List.set_cons_succ, List.set_cons_zero, Nat.reduceSub, Nat.zero_add, Nat.reduceAdd, Option.map_some, Option.map_none, Option.bind_some, if_true, List.length_map, List.length_range, e_setE0, e_setES, e_dOf, e_fzOf, e_fz, e_ow, e_gSl0, e_gSlS, e_gFz0, e_gFzS, e_kC, e_aNil, e_aCons, e_dLst, e_dTup, e_b2, e_pI, e_pAddI, e_pAddL, e_callD, e_bOf, e_bNot, e_bTru, e_truB, e_bAnd, e_bOr, e_vAnd, e_bYes, e_pLenL, e_pLenT, e_pAbs, e_pListOf, e_pIxL, e_pIxT, e_vIsi, e_iLst, e_iEnm, e_gNm, e_oNil, e_oSeq, e_oSet, e_oRet, e_oIf, e_oFor, e_oFrz, e_vLc, e_frz0w, e_frz0f, e_frzS, e_wipeN, e_wipeC, e_oRetV, e_oApp, e_oExt, e_iOwn, e_iOwnE, e_gTpl2, e_pEqI, e_pNeI, e_pNeB, e_pEqB, e_vChain, e_vNeg, e_vRev, e_oInt, e_dSl, e_vNot, e_vOr, e_vLc2, e_isiL, e_isiI, e_isiB, e_isBB, e_oPar, e_oAug, e_oRevS, e_vIf, e_gGh, e_vRepL, e_pInt1B, e_oAugIx, e_mUnp, e_mPar2, e_mPar3, e_xTup, e_xLst, e_allN, e_allC, e_mDrp2, e_gTpl3, e_oSwap, e_vCallT, e_xCallO, e_mIns, e_mSetIx, e_vLend, e_flatO, e_flatFB, e_flatFI, e_isB, e_isNotBB, e_oUnp, e_iZp, e_oSetIxM, e_oIns, e_oWhile, e_xPV, e_xP, e_xPB, e_xPI, e_xV, e_xFz, e_x2, e_x2N, e_xB, e_xGix, e_mNil, e_mSeq, e_mIf, e_mRet, e_mSet, e_mGset, e_mGaug, e_mLft, e_mFor, e_mApp, e_gaNil, e_gaV, e_gaG, e_xCallG, Nat.reduceLT, Nat.reduceLeDiff, it, e, ln]
theorem fuel2 : ∃ f, FUEL = f + 2 := ⟨FUEL - 2, by
  have : FUEL = 1000 := by unfold FUEL; rw [big_eq]
  omega⟩
theorem e_oAppD' {j : Nat} {f : En → Option Sl} {Θ : En2} : oAppD j f Θ = (match Θ[j]?, f (prj Θ) with
  | some (some (.dw xss)), some (.ow xs) => if onlyD j Θ = true ∧ xss.length < cap then some (.nx (Θ.set j (some (.dw (xss ++ [xs]))))) else none
  | _, _ => none) := id rfl
theorem tD_len (rr : Nat → Nat) (w m : Nat) : (tD rr w m).length = w := by unfold tD; rw [List.length_map, Fl.tabI_len]
theorem tD_more {rr : Nat → Nat} {w m : Nat} (h : ∀ t, t < m → rr t < w) : tD rr (w + 1) m = tD rr w m ++ [[]] := by
  unfold tD
  rw [Fl.tabI_more h, List.map_append]; rfl
theorem while_spec (RS : List PyData) (rr : Nat → Nat) (w r k : Nat) (h : ∀ t, t < k → rr t < w) (hr : r ≤ w) (hw : w ≤ 100) : oWhile2 FUEL (bOf (b2 pLe (dOf (callD pLen (aCons (gSl 1) aNil))) (gSl 3))) g2_law_due_b1 [some (.sl (.fz (.list RS))), some (.dw (tD rr w k)), some (.sl (.fz (.int (k : Int)))), some (.sl (.fz (.int (r : Int))))] = some (.nx [some (.sl (.fz (.list RS))), some (.dw (tD rr (max w (r + 1)) k)), some (.sl (.fz (.int (k : Int)))), some (.sl (.fz (.int (r : Int))))]) := by
  obtain ⟨f, hf⟩ := fuel2
  have cond : ∀ v, (bOf (b2 pLe (dOf (callD pLen (aCons (gSl 1) aNil))) (gSl 3))) (vw [some (.sl (.fz (.list RS))), some (.dw (tD rr v k)), some (.sl (.fz (.int (k : Int)))), some (.sl (.fz (.int (r : Int))))]) = some (decide ((v : Int) ≤ (r : Int))) := fun v => by
    have lt : ((tD rr v k).map PyData.list).length = v := by rw [List.length_map, tD_len]
    show (bOf (b2 pLe (dOf (callD pLen (aCons (gSl 1) aNil))) (gSl 3))) [some (.fz (.list RS)), some (.fz (.list ((tD rr v k).map PyData.list))), some (.fz (.int (k : Int))), some (.fz (.int (r : Int)))] = _
    generalize (tD rr v k).map PyData.list = T at lt
    simp only [List.map_cons, List.map_nil, List.length_cons, List.length_nil, List.replicate, List.cons_append, List.nil_append, List.getElem?_cons_zero, List.getElem?_cons_succ, List.set_cons_succ, List.set_cons_zero, Nat.reduceSub, Nat.zero_add, Nat.reduceAdd, Option.map_some, Option.map_none, Option.bind_some, if_true, List.length_map, List.length_range, e_setE0, e_setES, e_dOf, e_fzOf, e_fz, e_ow, e_gSl0, e_gSlS, e_gFz0, e_gFzS, e_kC, e_aNil, e_aCons, e_dLst, e_dTup, e_b2, e_pI, e_pAddI, e_pAddL, e_callD, e_bOf, e_bNot, e_bTru, e_truB, e_bAnd, e_bOr, e_vAnd, e_bYes, e_pLenL, e_pLenT, e_pAbs, e_pListOf, e_pIxL, e_pIxT, e_vIsi, e_iLst, e_iEnm, e_gNm, e_oNil, e_oSeq, e_oSet, e_oRet, e_oIf, e_oFor, e_oFrz, e_vLc, e_frz0w, e_frz0f, e_frzS, e_wipeN, e_wipeC, e_oRetV, e_oApp, e_oExt, e_iOwn, e_iOwnE, e_gTpl2, e_pEqI, e_pNeI, e_pNeB, e_pEqB, e_vChain, e_vNeg, e_vRev, e_oInt, e_dSl, e_vNot, e_vOr, e_vLc2, e_isiL, e_isiI, e_isiB, e_isBB, e_oPar, e_oAug, e_oRevS, e_vIf, e_gGh, e_vRepL, e_pInt1B, e_oAugIx, e_mUnp, e_mPar2, e_mPar3, e_xTup, e_xLst, e_allN, e_allC, e_mDrp2, e_gTpl3, e_oSwap, e_vCallT, e_xCallO, e_mIns, e_mSetIx, e_vLend, e_flatO, e_flatFB, e_flatFI, e_isB, e_isNotBB, e_oUnp, e_iZp, e_oSetIxM, e_oIns, e_oWhile, e_xPV, e_xP, e_xPB, e_xPI, e_xV, e_xFz, e_x2, e_x2N, e_xB, e_xGix, e_mNil, e_mSeq, e_mIf, e_mRet, e_mSet, e_mGset, e_mGaug, e_mLft, e_mFor, e_mApp, e_gaNil, e_gaV, e_gaG, e_xCallG, Nat.reduceLT, Nat.reduceLeDiff, lt]
  unfold oWhile2
  rw [hf]
  by_cases q : r < w
  · unfold Bd.whileD2
    rw [cond w, decide_eq_false (by omega), show max w (r + 1) = w by omega]
  · have er : r = w := by omega
    have c0 : (0 : Nat) ≤ cap := Nat.zero_le _
    have b : g2_law_due_b1 [some (.sl (.fz (.list RS))), some (.dw (tD rr w k)), some (.sl (.fz (.int (k : Int)))), some (.sl (.fz (.int (r : Int))))] = some (.nx [some (.sl (.fz (.list RS))), some (.dw (tD rr (w + 1) k)), some (.sl (.fz (.int (k : Int)))), some (.sl (.fz (.int (r : Int))))]) := by
      have dl : (dLst aNil) [some (.fz (.list RS)), none, some (.fz (.int (k : Int))), some (.fz (.int (r : Int)))] = some (.ow []) := by simp only [List.map_cons, List.map_nil, List.length_cons, List.length_nil, List.replicate, List.cons_append, List.nil_append, List.getElem?_cons_zero, List.getElem?_cons_succ, List.set_cons_succ, List.set_cons_zero, Nat.reduceSub, Nat.zero_add, Nat.reduceAdd, Option.map_some, Option.map_none, Option.bind_some, if_true, List.length_map, List.length_range, e_setE0, e_setES, e_dOf, e_fzOf, e_fz, e_ow, e_gSl0, e_gSlS, e_gFz0, e_gFzS, e_kC, e_aNil, e_aCons, e_dLst, e_dTup, e_b2, e_pI, e_pAddI, e_pAddL, e_callD, e_bOf, e_bNot, e_bTru, e_truB, e_bAnd, e_bOr, e_vAnd, e_bYes, e_pLenL, e_pLenT, e_pAbs, e_pListOf, e_pIxL, e_pIxT, e_vIsi, e_iLst, e_iEnm, e_gNm, e_oNil, e_oSeq, e_oSet, e_oRet, e_oIf, e_oFor, e_oFrz, e_vLc, e_frz0w, e_frz0f, e_frzS, e_wipeN, e_wipeC, e_oRetV, e_oApp, e_oExt, e_iOwn, e_iOwnE, e_gTpl2, e_pEqI, e_pNeI, e_pNeB, e_pEqB, e_vChain, e_vNeg, e_vRev, e_oInt, e_dSl, e_vNot, e_vOr, e_vLc2, e_isiL, e_isiI, e_isiB, e_isBB, e_oPar, e_oAug, e_oRevS, e_vIf, e_gGh, e_vRepL, e_pInt1B, e_oAugIx, e_mUnp, e_mPar2, e_mPar3, e_xTup, e_xLst, e_allN, e_allC, e_mDrp2, e_gTpl3, e_oSwap, e_vCallT, e_xCallO, e_mIns, e_mSetIx, e_vLend, e_flatO, e_flatFB, e_flatFI, e_isB, e_isNotBB, e_oUnp, e_iZp, e_oSetIxM, e_oIns, e_oWhile, e_xPV, e_xP, e_xPB, e_xPI, e_xV, e_xFz, e_x2, e_x2N, e_xB, e_xGix, e_mNil, e_mSeq, e_mIf, e_mRet, e_mSet, e_mGset, e_mGaug, e_mLft, e_mFor, e_mApp, e_gaNil, e_gaV, e_gaG, e_xCallG, Nat.reduceLT, Nat.reduceLeDiff, c0]
      have ap : oAppD 1 (dLst aNil) [some (.sl (.fz (.list RS))), some (.dw (tD rr w k)), some (.sl (.fz (.int (k : Int)))), some (.sl (.fz (.int (r : Int))))] = some (.nx [some (.sl (.fz (.list RS))), some (.dw (tD rr w k ++ [[]])), some (.sl (.fz (.int (k : Int)))), some (.sl (.fz (.int (r : Int))))]) := by
        rw [e_oAppD']
        show (match some (some (S2.dw (tD rr w k))), (dLst aNil) [some (.fz (.list RS)), none, some (.fz (.int (k : Int))), some (.fz (.int (r : Int)))] with
          | some (some (.dw xss)), some (.ow xs) => if onlyD 1 [some (.sl (.fz (.list RS))), some (.dw (tD rr w k)), some (.sl (.fz (.int (k : Int)))), some (.sl (.fz (.int (r : Int))))] = true ∧ xss.length < cap then some (Out2.nx (([some (.sl (.fz (.list RS))), some (.dw (tD rr w k)), some (.sl (.fz (.int (k : Int)))), some (.sl (.fz (.int (r : Int))))] : En2).set 1 (some (.dw (xss ++ [xs]))))) else none
          | _, _ => none) = _
        rw [dl]
        dsimp only
        rw [if_pos ⟨rfl, by rw [tD_len, cap_eq]; omega⟩]
        rfl
      unfold g2_law_due_b1
      rw [e_oSeq2, ap, tD_more h]
      rfl
    unfold Bd.whileD2
    rw [cond w, decide_eq_true (by omega)]
    dsimp only
    rw [b]
    dsimp only
    unfold Bd.whileD2
    rw [cond (w + 1), decide_eq_false (by omega), show max w (r + 1) = w + 1 by omega]
theorem due_spec {o : List (List Int)} (hl : o.length ≤ 14) {B : Nat → List Int} (G : Gr o B) {rr : Nat → Nat} (W : Fl.Gw B rr o.length) : mD_law_due [.list (rows (shs B o.length))] = some (tD rr (B o.length).length o.length) := by
  have ls : (rows (shs B o.length)).length = o.length + 1 := by unfold rows shs; simp
  have it : ∀ y1 y2 y3, iR1 (dOf (b2 pSub (dOf (callD pLen (aCons (gSl 0) aNil))) (kC (.int 1)))) [some (.fz (.list (rows (shs B o.length)))), y1, y2, y3] = some ((List.range o.length).map fun (k : Nat) => PyData.int (k : Int)) := fun y1 y2 y3 => iR1_nat (by
    generalize rows (shs B o.length) = RS at ls
    have : ((o.length + 1 : Nat) : Int) - 1 = (o.length : Int) := by omega
    simp only [List.map_cons, List.map_nil, List.length_cons, List.length_nil, List.replicate, List.cons_append, List.nil_append, List.getElem?_cons_zero, List.getElem?_cons_succ, List.set_cons_succ, List.set_cons_zero, Nat.reduceSub, Nat.zero_add, Nat.reduceAdd, Option.map_some, Option.map_none, Option.bind_some, if_true, List.length_map, List.length_range, e_setE0, e_setES, e_dOf, e_fzOf, e_fz, e_ow, e_gSl0, e_gSlS, e_gFz0, e_gFzS, e_kC, e_aNil, e_aCons, e_dLst, e_dTup, e_b2, e_pI, e_pAddI, e_pAddL, e_callD, e_bOf, e_bNot, e_bTru, e_truB, e_bAnd, e_bOr, e_vAnd, e_bYes, e_pLenL, e_pLenT, e_pAbs, e_pListOf, e_pIxL, e_pIxT, e_vIsi, e_iLst, e_iEnm, e_gNm, e_oNil, e_oSeq, e_oSet, e_oRet, e_oIf, e_oFor, e_oFrz, e_vLc, e_frz0w, e_frz0f, e_frzS, e_wipeN, e_wipeC, e_oRetV, e_oApp, e_oExt, e_iOwn, e_iOwnE, e_gTpl2, e_pEqI, e_pNeI, e_pNeB, e_pEqB, e_vChain, e_vNeg, e_vRev, e_oInt, e_dSl, e_vNot, e_vOr, e_vLc2, e_isiL, e_isiI, e_isiB, e_isBB, e_oPar, e_oAug, e_oRevS, e_vIf, e_gGh, e_vRepL, e_pInt1B, e_oAugIx, e_mUnp, e_mPar2, e_mPar3, e_xTup, e_xLst, e_allN, e_allC, e_mDrp2, e_gTpl3, e_oSwap, e_vCallT, e_xCallO, e_mIns, e_mSetIx, e_vLend, e_flatO, e_flatFB, e_flatFI, e_isB, e_isNotBB, e_oUnp, e_iZp, e_oSetIxM, e_oIns, e_oWhile, e_xPV, e_xP, e_xPB, e_xPI, e_xV, e_xFz, e_x2, e_x2N, e_xB, e_xGix, e_mNil, e_mSeq, e_mIf, e_mRet, e_mSet, e_mGset, e_mGaug, e_mLft, e_mFor, e_mApp, e_gaNil, e_gaV, e_gaG, e_xCallG, Nat.reduceLT, Nat.reduceLeDiff, ls, this]) (by omega)
  obtain ⟨Θ', lp, y2, y3, rfl, _⟩ := forD2_range (ix := 2) (b := g2_law_due_b2) (n := o.length) (emb := fun (k : Nat) => PyData.int (k : Int))
    (fun k Θ => ∃ y2 y3, Θ = [some (.sl (.fz (.list (rows (shs B o.length))))), some (.dw (tD rr (B k).length k)), y2, y3] ∧ (y3 = none ∨ ∃ z, y3 = some (.sl (.fz (.int z)))))
    (fun k Θ hk hp => by
      obtain ⟨y2, y3, rfl, hy⟩ := hp
      refine ⟨[some (.sl (.fz (.list (rows (shs B o.length))))), some (.dw (tD rr (B (k + 1)).length (k + 1))), some (.sl (.fz (.int (k : Int)))), some (.sl (.fz (.int (rr k : Int))))], ?_, _, _, rfl, .inr ⟨_, rfl⟩⟩
      obtain ⟨l1, l2⟩ := W.lens hk
      have a1 := shs_at B (n := o.length) (m := k) (by omega)
      have a2 : atI (rows (shs B o.length)) ((k : Int) + 1) = some (.list (nums (B (k + 1)))) := shs_at B (n := o.length) (m := k + 1) (by omega)
      have lk := G.ln k (by omega)
      have gr := grown_spec (W.bx k hk) (G.sh k (by omega)) (G.sh (k + 1) (by omega)) l1 l2 (by omega)
      have wh := while_spec (rows (shs B o.length)) rr (B k).length (rr k) k (W.rr_lt (by omega)) l1 (by omega)
      rw [← l2] at wh
      have st := tD_set (rr := rr) (w := (B (k + 1)).length) (m := k) (W.rr_lt (by omega) k (by omega))
      have ap := appAt_ok (Θ := [some (.sl (.fz (.list (rows (shs B o.length))))), some (.dw (tD rr (B (k + 1)).length k)), some (.sl (.fz (.int (k : Int)))), some (.sl (.fz (.int (rr k : Int))))]) (j := 1) (k := rr k) (fi := gSl 3) (f := gFz 2) (d := .int (k : Int)) rfl rfl rfl (tD_get (W.rr_lt (by omega) k (by omega))) (row_cap (by omega))
      rw [st] at ap
      have lf : lft [1] (oSet 3 (fzOf (dOf (callD m_law_grown_at (aCons (dOf (b2 pIx (gSl 0) (gSl 2))) (aCons (dOf (b2 pIx (gSl 0) (dOf (b2 pAdd (gSl 2) (kC (.int 1)))))) aNil)))))) [some (.sl (.fz (.list (rows (shs B o.length))))), some (.dw (tD rr (B k).length k)), some (.sl (.fz (.int (k : Int)))), y3] = some (.nx [some (.sl (.fz (.list (rows (shs B o.length))))), some (.dw (tD rr (B k).length k)), some (.sl (.fz (.int (k : Int)))), some (.sl (.fz (.int (rr k : Int))))]) := by
        generalize m_law_grown_at = mga at gr
        generalize rows (shs B o.length) = RS at a1 a2
        generalize nums (B (k + 1)) = N1 at a2 gr
        generalize nums (B k) = N0 at a1 gr
        generalize tD rr (B k).length k = T0
        rcases hy with rfl | ⟨z, rfl⟩
        · simp only [List.map_cons, List.map_nil, List.length_cons, List.length_nil, List.replicate, List.cons_append, List.nil_append, List.getElem?_cons_zero, List.getElem?_cons_succ, List.set_cons_succ, List.set_cons_zero, Nat.reduceSub, Nat.zero_add, Nat.reduceAdd, Option.map_some, Option.map_none, Option.bind_some, if_true, List.length_map, List.length_range, e_setE0, e_setES, e_dOf, e_fzOf, e_fz, e_ow, e_gSl0, e_gSlS, e_gFz0, e_gFzS, e_kC, e_aNil, e_aCons, e_dLst, e_dTup, e_b2, e_pI, e_pAddI, e_pAddL, e_callD, e_bOf, e_bNot, e_bTru, e_truB, e_bAnd, e_bOr, e_vAnd, e_bYes, e_pLenL, e_pLenT, e_pAbs, e_pListOf, e_pIxL, e_pIxT, e_vIsi, e_iLst, e_iEnm, e_gNm, e_oNil, e_oSeq, e_oSet, e_oRet, e_oIf, e_oFor, e_oFrz, e_vLc, e_frz0w, e_frz0f, e_frzS, e_wipeN, e_wipeC, e_oRetV, e_oApp, e_oExt, e_iOwn, e_iOwnE, e_gTpl2, e_pEqI, e_pNeI, e_pNeB, e_pEqB, e_vChain, e_vNeg, e_vRev, e_oInt, e_dSl, e_vNot, e_vOr, e_vLc2, e_isiL, e_isiI, e_isiB, e_isBB, e_oPar, e_oAug, e_oRevS, e_vIf, e_gGh, e_vRepL, e_pInt1B, e_oAugIx, e_mUnp, e_mPar2, e_mPar3, e_xTup, e_xLst, e_allN, e_allC, e_mDrp2, e_gTpl3, e_oSwap, e_vCallT, e_xCallO, e_mIns, e_mSetIx, e_vLend, e_flatO, e_flatFB, e_flatFI, e_isB, e_isNotBB, e_oUnp, e_iZp, e_oSetIxM, e_oIns, e_oWhile, e_xPV, e_xP, e_xPB, e_xPI, e_xV, e_xFz, e_x2, e_x2N, e_xB, e_xGix, e_mNil, e_mSeq, e_mIf, e_mRet, e_mSet, e_mGset, e_mGaug, e_mLft, e_mFor, e_mApp, e_gaNil, e_gaV, e_gaG, e_xCallG, Nat.reduceLT, Nat.reduceLeDiff, e_prjN, e_prj0, e_prjS, e_prjD, e_vwN, e_vw0, e_vwS, e_vwD, e_mrgN, e_mrg0, e_mrgS, e_mrgD, e_dwOkN, e_dwOk0, e_dwOkS, e_dwOkD, e_thwN, e_thw0, e_thwS, e_thwD, e_oNil2, e_oSeq2, e_lft, e_vwG, e_oRetD, e_oSetD, e_vSetD, e_callDD, e_vLcD, e_flatB, e_flatI, e_upN, e_upC, e_oFor2, e_oIfA, e_oRevL, e_oAppL, a1, a2, gr]
          rfl
        · simp only [List.map_cons, List.map_nil, List.length_cons, List.length_nil, List.replicate, List.cons_append, List.nil_append, List.getElem?_cons_zero, List.getElem?_cons_succ, List.set_cons_succ, List.set_cons_zero, Nat.reduceSub, Nat.zero_add, Nat.reduceAdd, Option.map_some, Option.map_none, Option.bind_some, if_true, List.length_map, List.length_range, e_setE0, e_setES, e_dOf, e_fzOf, e_fz, e_ow, e_gSl0, e_gSlS, e_gFz0, e_gFzS, e_kC, e_aNil, e_aCons, e_dLst, e_dTup, e_b2, e_pI, e_pAddI, e_pAddL, e_callD, e_bOf, e_bNot, e_bTru, e_truB, e_bAnd, e_bOr, e_vAnd, e_bYes, e_pLenL, e_pLenT, e_pAbs, e_pListOf, e_pIxL, e_pIxT, e_vIsi, e_iLst, e_iEnm, e_gNm, e_oNil, e_oSeq, e_oSet, e_oRet, e_oIf, e_oFor, e_oFrz, e_vLc, e_frz0w, e_frz0f, e_frzS, e_wipeN, e_wipeC, e_oRetV, e_oApp, e_oExt, e_iOwn, e_iOwnE, e_gTpl2, e_pEqI, e_pNeI, e_pNeB, e_pEqB, e_vChain, e_vNeg, e_vRev, e_oInt, e_dSl, e_vNot, e_vOr, e_vLc2, e_isiL, e_isiI, e_isiB, e_isBB, e_oPar, e_oAug, e_oRevS, e_vIf, e_gGh, e_vRepL, e_pInt1B, e_oAugIx, e_mUnp, e_mPar2, e_mPar3, e_xTup, e_xLst, e_allN, e_allC, e_mDrp2, e_gTpl3, e_oSwap, e_vCallT, e_xCallO, e_mIns, e_mSetIx, e_vLend, e_flatO, e_flatFB, e_flatFI, e_isB, e_isNotBB, e_oUnp, e_iZp, e_oSetIxM, e_oIns, e_oWhile, e_xPV, e_xP, e_xPB, e_xPI, e_xV, e_xFz, e_x2, e_x2N, e_xB, e_xGix, e_mNil, e_mSeq, e_mIf, e_mRet, e_mSet, e_mGset, e_mGaug, e_mLft, e_mFor, e_mApp, e_gaNil, e_gaV, e_gaG, e_xCallG, Nat.reduceLT, Nat.reduceLeDiff, e_prjN, e_prj0, e_prjS, e_prjD, e_vwN, e_vw0, e_vwS, e_vwD, e_mrgN, e_mrg0, e_mrgS, e_mrgD, e_dwOkN, e_dwOk0, e_dwOkS, e_dwOkD, e_thwN, e_thw0, e_thwS, e_thwD, e_oNil2, e_oSeq2, e_lft, e_vwG, e_oRetD, e_oSetD, e_vSetD, e_callDD, e_vLcD, e_flatB, e_flatI, e_upN, e_upC, e_oFor2, e_oIfA, e_oRevL, e_oAppL, a1, a2, gr]
          rfl
      unfold g2_law_due_b2
      generalize (oWhile2 FUEL _ _ : En2 → Option Out2) = WW at wh ⊢
      generalize (oAppAt _ _ _ : En2 → Option Out2) = AA at ap ⊢
      generalize (lft [1] _ : En2 → Option Out2) = LL at lf ⊢
      show oSeq2 LL (oSeq2 WW (oSeq2 AA oNil2)) [some (.sl (.fz (.list (rows (shs B o.length))))), some (.dw (tD rr (B k).length k)), some (.sl (.fz (.int (k : Int)))), y3] = _
      rw [e_oSeq2, lf]
      dsimp only
      rw [e_oSeq2, wh]
      dsimp only
      rw [e_oSeq2, ap]
      rfl) [some (.sl (.fz (.list (rows (shs B o.length))))), some (.dw (tD rr (B 0).length 0)), none, none] ⟨none, none, rfl, .inl rfl⟩
  have t0 : tD rr (B 0).length 0 = [] := by rw [W.b0]; rfl
  rw [t0] at lp
  have vn : ∀ Γ, vNilD Γ = some [] := fun _ => rfl
  unfold mD_law_due mirrorD gD_law_due
  rw [start2_1]
  generalize g2_law_due_b2 = b2' at lp
  generalize tD rr (B o.length).length o.length = T1 at lp
  generalize rows (shs B o.length) = RS at it lp
  simp only [List.map_cons, List.map_nil, List.length_cons, List.length_nil, List.replicate, List.cons_append, List.nil_append, List.getElem?_cons_zero, List.getElem?_cons_succ, List.set_cons_succ, List.set_cons_zero, Nat.reduceSub, Nat.zero_add, Nat.reduceAdd, Option.map_some, Option.map_none, Option.bind_some, if_true, List.length_map, List.length_range, e_setE0, e_setES, e_dOf, e_fzOf, e_fz, e_ow, e_gSl0, e_gSlS, e_gFz0, e_gFzS, e_kC, e_aNil, e_aCons, e_dLst, e_dTup, e_b2, e_pI, e_pAddI, e_pAddL, e_callD, e_bOf, e_bNot, e_bTru, e_truB, e_bAnd, e_bOr, e_vAnd, e_bYes, e_pLenL, e_pLenT, e_pAbs, e_pListOf, e_pIxL, e_pIxT, e_vIsi, e_iLst, e_iEnm, e_gNm, e_oNil, e_oSeq, e_oSet, e_oRet, e_oIf, e_oFor, e_oFrz, e_vLc, e_frz0w, e_frz0f, e_frzS, e_wipeN, e_wipeC, e_oRetV, e_oApp, e_oExt, e_iOwn, e_iOwnE, e_gTpl2, e_pEqI, e_pNeI, e_pNeB, e_pEqB, e_vChain, e_vNeg, e_vRev, e_oInt, e_dSl, e_vNot, e_vOr, e_vLc2, e_isiL, e_isiI, e_isiB, e_isBB, e_oPar, e_oAug, e_oRevS, e_vIf, e_gGh, e_vRepL, e_pInt1B, e_oAugIx, e_mUnp, e_mPar2, e_mPar3, e_xTup, e_xLst, e_allN, e_allC, e_mDrp2, e_gTpl3, e_oSwap, e_vCallT, e_xCallO, e_mIns, e_mSetIx, e_vLend, e_flatO, e_flatFB, e_flatFI, e_isB, e_isNotBB, e_oUnp, e_iZp, e_oSetIxM, e_oIns, e_oWhile, e_xPV, e_xP, e_xPB, e_xPI, e_xV, e_xFz, e_x2, e_x2N, e_xB, e_xGix, e_mNil, e_mSeq, e_mIf, e_mRet, e_mSet, e_mGset, e_mGaug, e_mLft, e_mFor, e_mApp, e_gaNil, e_gaV, e_gaG, e_xCallG, Nat.reduceLT, Nat.reduceLeDiff, e_prjN, e_prj0, e_prjS, e_prjD, e_vwN, e_vw0, e_vwS, e_vwD, e_mrgN, e_mrg0, e_mrgS, e_mrgD, e_dwOkN, e_dwOk0, e_dwOkS, e_dwOkD, e_thwN, e_thw0, e_thwS, e_thwD, e_oNil2, e_oSeq2, e_lft, e_vwG, e_oRetD, e_oSetD, e_vSetD, e_callDD, e_vLcD, e_flatB, e_flatI, e_upN, e_upC, e_oFor2, e_oIfA, e_oRevL, e_oAppL, vn, it, e_oFor2, lp]
  rfl
theorem rows_range (o : List (List Int)) : rows o = (List.range o.length).map fun (t : Nat) => PyData.list (nums (o.getD t [])) := by
  apply List.ext_getElem?
  intro i
  unfold rows
  rw [List.getElem?_map, List.getElem?_map]
  by_cases h : i < o.length
  · rw [List.getElem?_range h, getD_at (d := []) h]; rfl
  · rw [List.getElem?_eq_none (l := o) (by omega), List.getElem?_eq_none (l := List.range o.length) (by simp; omega)]; rfl
theorem sortU_self {r : List Int} (h : r.Pairwise (· < ·)) : sortU r = r := lt_eq (sortU_lt r) h fun x => mem_sortU
def rI (rr : Nat → Nat) (i n : Nat) : List Int := (Fl.rowN rr i n).map fun (t : Nat) => (t : Int)
theorem rI_pw (rr : Nat → Nat) (i n : Nat) : (rI rr i n).Pairwise (· < ·) := by
  unfold rI
  rw [List.pairwise_map]
  exact (Fl.rowN_pw rr i n).imp fun h => by omega
theorem rI_len (rr : Nat → Nat) (i n : Nat) : (rI rr i n).length ≤ n := by
  unfold rI Fl.rowN
  rw [List.length_map]
  have := List.length_filter_le (fun t => decide (rr t = i)) (List.range n)
  rwa [List.length_range] at this
theorem rise_spec {B : Nat → List Int} {rr : Nat → Nat} {n : Nat} (W : Fl.Gw B rr n) (hn : n ≤ 14) (hw : (B n).length ≤ 14) : m_law_rise [.list (rows (Fl.tabI rr (B n).length n))] = some (.fz (.bool true)) := by
  generalize hT : Fl.tabI rr (B n).length n = T
  have lT : T.length = (B n).length := by rw [← hT, Fl.tabI_len]
  have gT : ∀ i, i < (B n).length → T.getD i [] = rI rr i n := fun i hi => by
    rw [← hT, List.getD_eq_getElem?_getD, Fl.tabI_get hi]; rfl
  have rr' := rows_range T
  rw [lT] at rr'
  have c0 : (0 : Nat) ≤ cap := Nat.zero_le _
  obtain ⟨Γ', lp, y1, y2, y3, rfl, _⟩ := forD_range (g := gNm 2) (body := g_law_rise_b2) (n := (B n).length) (emb := fun (t : Nat) => PyData.list (nums (T.getD t [])))
    (fun i Γ => ∃ y1 y2 y3, Γ = [some (.fz (.list (rows T))), y1, y2, y3] ∧ ((i = 0 ∧ y1 = some (.fz .none)) ∨ ∃ j, i = j + 1 ∧ y1 = some (.fz (.list (nums (rI rr j n))))))
    (fun i Γ hi hp => by
      obtain ⟨y1, y2, y3, rfl, hy⟩ := hp
      have gi := gT i hi
      have sh := W.sh n (Nat.le_refl _)
      have li : (((rI rr i n).length : Nat) : Int) = (B n).getD i 0 := by
        unfold rI; rw [List.length_map]; exact W.len_row i n (Nat.le_refl _)
      have pos := (sh.getD_pos i).mp hi
      have ne : rI rr i n ≠ [] := fun z => by rw [z, List.length_nil] at li; omega
      have pq : pEq (.list (nums (rI rr i n))) (.list []) = some (.fz (.bool false)) := by
        have := pEq_nn (rI rr i n) []
        rwa [decide_eq_false ne] at this
      have ss : pSortedSet [.list (nums (rI rr i n))] = some (.ow (nums (rI rr i n))) := by
        unfold pSortedSet
        dsimp only
        have ti : toInts (nums (rI rr i n)) = some (rI rr i n) := toInts_map _
        have l1 := rI_len rr i n
        have l2 : (uniq (rI rr i n)).length = (rI rr i n).length := by
          have e := (sortI_perm (uniq (rI rr i n))).length_eq
          rw [← e]
          exact congrArg List.length (sortU_self (rI_pw rr i n))
        rw [ti, Option.bind_some, if_pos ⟨by rw [big_eq]; omega, by omega⟩, sortU_self (rI_pw rr i n)] <;> rfl
      have pn := pNe_nums (rI rr i n)
      have ln : (nums (rI rr i n)).length = (rI rr i n).length := List.length_map ..
      have lni := rI_len rr i n
      rcases hy with ⟨rfl, rfl⟩ | ⟨j, rfl, rfl⟩
      · refine ⟨[some (.fz (.list (rows T))), some (.fz (.list (nums (rI rr 0 n)))), some (.fz (.list (nums (rI rr 0 n)))), y3], ?_, _, _, _, rfl, .inr ⟨0, rfl, rfl⟩⟩
        have is : pIsB true .none .none = some (.fz (.bool false)) := rfl
        unfold g_law_rise_b2
        rw [gi]
        generalize nums (rI rr 0 n) = R0 at pq ss pn
        generalize rows T = RT
        simp only [List.map_cons, List.map_nil, List.length_cons, List.length_nil, List.replicate, List.cons_append, List.nil_append, List.getElem?_cons_zero, List.getElem?_cons_succ, List.set_cons_succ, List.set_cons_zero, Nat.reduceSub, Nat.zero_add, Nat.reduceAdd, Option.map_some, Option.map_none, Option.bind_some, if_true, List.length_map, List.length_range, e_setE0, e_setES, e_dOf, e_fzOf, e_fz, e_ow, e_gSl0, e_gSlS, e_gFz0, e_gFzS, e_kC, e_aNil, e_aCons, e_dLst, e_dTup, e_b2, e_pI, e_pAddI, e_pAddL, e_callD, e_bOf, e_bNot, e_bTru, e_truB, e_bAnd, e_bOr, e_vAnd, e_bYes, e_pLenL, e_pLenT, e_pAbs, e_pListOf, e_pIxL, e_pIxT, e_vIsi, e_iLst, e_iEnm, e_gNm, e_oNil, e_oSeq, e_oSet, e_oRet, e_oIf, e_oFor, e_oFrz, e_vLc, e_frz0w, e_frz0f, e_frzS, e_wipeN, e_wipeC, e_oRetV, e_oApp, e_oExt, e_iOwn, e_iOwnE, e_gTpl2, e_pEqI, e_pNeI, e_pNeB, e_pEqB, e_vChain, e_vNeg, e_vRev, e_oInt, e_dSl, e_vNot, e_vOr, e_vLc2, e_isiL, e_isiI, e_isiB, e_isBB, e_oPar, e_oAug, e_oRevS, e_vIf, e_gGh, e_vRepL, e_pInt1B, e_oAugIx, e_mUnp, e_mPar2, e_mPar3, e_xTup, e_xLst, e_allN, e_allC, e_mDrp2, e_gTpl3, e_oSwap, e_vCallT, e_xCallO, e_mIns, e_mSetIx, e_vLend, e_flatO, e_flatFB, e_flatFI, e_isB, e_isNotBB, e_oUnp, e_iZp, e_oSetIxM, e_oIns, e_oWhile, e_xPV, e_xP, e_xPB, e_xPI, e_xV, e_xFz, e_x2, e_x2N, e_xB, e_xGix, e_mNil, e_mSeq, e_mIf, e_mRet, e_mSet, e_mGset, e_mGaug, e_mLft, e_mFor, e_mApp, e_gaNil, e_gaV, e_gaG, e_xCallG, Nat.reduceLT, Nat.reduceLeDiff, c0, pq, ss, pn, is]
      · have is : ∀ l : List PyData, pIsB true (.list l) .none = some (.fz (.bool true)) := fun _ => rfl
        have lj : (((rI rr j n).length : Nat) : Int) = (B n).getD j 0 := by
          unfold rI; rw [List.length_map]; exact W.len_row j n (Nat.le_refl _)
        have le : (B n).getD (j + 1) 0 ≤ (B n).getD j 0 := by
          have := List.pairwise_iff_getElem.mp sh.1 j (j + 1) (by omega) hi (by omega)
          rw [List.getD_eq_getElem?_getD, List.getD_eq_getElem?_getD, List.getElem?_eq_getElem hi, List.getElem?_eq_getElem (by omega)]
          exact this
        have dl : decide (((rI rr j n).length : Int) < ((rI rr (j + 1) n).length : Int)) = false := decide_eq_false (by omega)
        have lnj : (nums (rI rr j n)).length = (rI rr j n).length := List.length_map ..
        have it : ∀ y3, iR1 (dOf (callD pLen (aCons (gSl 2) aNil))) [some (.fz (.list (rows T))), some (.fz (.list (nums (rI rr j n)))), some (.fz (.list (nums (rI rr (j + 1) n)))), y3] = some ((List.range (rI rr (j + 1) n).length).map fun (k : Nat) => PyData.int (k : Int)) := fun y3 => iR1_nat (by
          generalize nums (rI rr (j + 1) n) = R1 at ln
          simp only [List.map_cons, List.map_nil, List.length_cons, List.length_nil, List.replicate, List.cons_append, List.nil_append, List.getElem?_cons_zero, List.getElem?_cons_succ, List.set_cons_succ, List.set_cons_zero, Nat.reduceSub, Nat.zero_add, Nat.reduceAdd, Option.map_some, Option.map_none, Option.bind_some, if_true, List.length_map, List.length_range, e_setE0, e_setES, e_dOf, e_fzOf, e_fz, e_ow, e_gSl0, e_gSlS, e_gFz0, e_gFzS, e_kC, e_aNil, e_aCons, e_dLst, e_dTup, e_b2, e_pI, e_pAddI, e_pAddL, e_callD, e_bOf, e_bNot, e_bTru, e_truB, e_bAnd, e_bOr, e_vAnd, e_bYes, e_pLenL, e_pLenT, e_pAbs, e_pListOf, e_pIxL, e_pIxT, e_vIsi, e_iLst, e_iEnm, e_gNm, e_oNil, e_oSeq, e_oSet, e_oRet, e_oIf, e_oFor, e_oFrz, e_vLc, e_frz0w, e_frz0f, e_frzS, e_wipeN, e_wipeC, e_oRetV, e_oApp, e_oExt, e_iOwn, e_iOwnE, e_gTpl2, e_pEqI, e_pNeI, e_pNeB, e_pEqB, e_vChain, e_vNeg, e_vRev, e_oInt, e_dSl, e_vNot, e_vOr, e_vLc2, e_isiL, e_isiI, e_isiB, e_isBB, e_oPar, e_oAug, e_oRevS, e_vIf, e_gGh, e_vRepL, e_pInt1B, e_oAugIx, e_mUnp, e_mPar2, e_mPar3, e_xTup, e_xLst, e_allN, e_allC, e_mDrp2, e_gTpl3, e_oSwap, e_vCallT, e_xCallO, e_mIns, e_mSetIx, e_vLend, e_flatO, e_flatFB, e_flatFI, e_isB, e_isNotBB, e_oUnp, e_iZp, e_oSetIxM, e_oIns, e_oWhile, e_xPV, e_xP, e_xPB, e_xPI, e_xV, e_xFz, e_x2, e_x2N, e_xB, e_xGix, e_mNil, e_mSeq, e_mIf, e_mRet, e_mSet, e_mGset, e_mGaug, e_mLft, e_mFor, e_mApp, e_gaNil, e_gaV, e_gaG, e_xCallG, Nat.reduceLT, Nat.reduceLeDiff, ln]) (by omega)
        obtain ⟨Γ1, lp1, z3, rfl⟩ := forD_range (g := gNm 3) (body := g_law_rise_b1) (n := (rI rr (j + 1) n).length) (emb := fun (k : Nat) => PyData.int (k : Int))
          (fun p Γ => ∃ z3, Γ = [some (.fz (.list (rows T))), some (.fz (.list (nums (rI rr j n)))), some (.fz (.list (nums (rI rr (j + 1) n)))), z3])
          (fun p Γ hp hΓ => by
            obtain ⟨z3, rfl⟩ := hΓ
            refine ⟨[some (.fz (.list (rows T))), some (.fz (.list (nums (rI rr j n)))), some (.fz (.list (nums (rI rr (j + 1) n)))), some (.fz (.int (p : Int)))], ?_, _, rfl⟩
            have hp' : p < (Fl.rowN rr (j + 1) n).length := by unfold rI at hp; rwa [List.length_map] at hp
            obtain ⟨u, u1, u2⟩ := W.col (List.getElem?_eq_getElem hp')
            have b1 : atI (nums (rI rr (j + 1) n)) (p : Int) = some (.int (((Fl.rowN rr (j + 1) n)[p] : Nat) : Int)) := atI_ints (by omega) (by
              unfold rI
              rw [Int.toNat_natCast, List.getElem?_map, List.getElem?_eq_getElem hp']; rfl)
            have b2 : atI (nums (rI rr j n)) (p : Int) = some (.int (u : Int)) := atI_ints (by omega) (by
              unfold rI
              rw [Int.toNat_natCast, List.getElem?_map, u1]; rfl)
            generalize (Fl.rowN rr (j + 1) n)[p] = t at u2 b1
            have dt : decide ((t : Int) ≤ (u : Int)) = false := decide_eq_false (by omega)
            unfold g_law_rise_b1
            generalize nums (rI rr (j + 1) n) = R1 at b1
            generalize nums (rI rr j n) = R0 at b2
            generalize rows T = RT
            simp only [List.map_cons, List.map_nil, List.length_cons, List.length_nil, List.replicate, List.cons_append, List.nil_append, List.getElem?_cons_zero, List.getElem?_cons_succ, List.set_cons_succ, List.set_cons_zero, Nat.reduceSub, Nat.zero_add, Nat.reduceAdd, Option.map_some, Option.map_none, Option.bind_some, if_true, List.length_map, List.length_range, e_setE0, e_setES, e_dOf, e_fzOf, e_fz, e_ow, e_gSl0, e_gSlS, e_gFz0, e_gFzS, e_kC, e_aNil, e_aCons, e_dLst, e_dTup, e_b2, e_pI, e_pAddI, e_pAddL, e_callD, e_bOf, e_bNot, e_bTru, e_truB, e_bAnd, e_bOr, e_vAnd, e_bYes, e_pLenL, e_pLenT, e_pAbs, e_pListOf, e_pIxL, e_pIxT, e_vIsi, e_iLst, e_iEnm, e_gNm, e_oNil, e_oSeq, e_oSet, e_oRet, e_oIf, e_oFor, e_oFrz, e_vLc, e_frz0w, e_frz0f, e_frzS, e_wipeN, e_wipeC, e_oRetV, e_oApp, e_oExt, e_iOwn, e_iOwnE, e_gTpl2, e_pEqI, e_pNeI, e_pNeB, e_pEqB, e_vChain, e_vNeg, e_vRev, e_oInt, e_dSl, e_vNot, e_vOr, e_vLc2, e_isiL, e_isiI, e_isiB, e_isBB, e_oPar, e_oAug, e_oRevS, e_vIf, e_gGh, e_vRepL, e_pInt1B, e_oAugIx, e_mUnp, e_mPar2, e_mPar3, e_xTup, e_xLst, e_allN, e_allC, e_mDrp2, e_gTpl3, e_oSwap, e_vCallT, e_xCallO, e_mIns, e_mSetIx, e_vLend, e_flatO, e_flatFB, e_flatFI, e_isB, e_isNotBB, e_oUnp, e_iZp, e_oSetIxM, e_oIns, e_oWhile, e_xPV, e_xP, e_xPB, e_xPI, e_xV, e_xFz, e_x2, e_x2N, e_xB, e_xGix, e_mNil, e_mSeq, e_mIf, e_mRet, e_mSet, e_mGset, e_mGaug, e_mLft, e_mFor, e_mApp, e_gaNil, e_gaV, e_gaG, e_xCallG, Nat.reduceLT, Nat.reduceLeDiff, b1, b2, dt]) [some (.fz (.list (rows T))), some (.fz (.list (nums (rI rr j n)))), some (.fz (.list (nums (rI rr (j + 1) n)))), y3] ⟨y3, rfl⟩
        refine ⟨[some (.fz (.list (rows T))), some (.fz (.list (nums (rI rr (j + 1) n)))), some (.fz (.list (nums (rI rr (j + 1) n)))), z3], ?_, _, _, _, rfl, .inr ⟨j + 1, rfl, rfl⟩⟩
        unfold g_law_rise_b2
        rw [gi]
        generalize g_law_rise_b1 = b1 at lp1
        generalize nums (rI rr (j + 1) n) = R1 at pq ss pn ln it lp1
        generalize nums (rI rr j n) = R0 at lnj it lp1
        generalize rows T = RT at it lp1
        simp only [List.map_cons, List.map_nil, List.length_cons, List.length_nil, List.replicate, List.cons_append, List.nil_append, List.getElem?_cons_zero, List.getElem?_cons_succ, List.set_cons_succ, List.set_cons_zero, Nat.reduceSub, Nat.zero_add, Nat.reduceAdd, Option.map_some, Option.map_none, Option.bind_some, if_true, List.length_map, List.length_range, e_setE0, e_setES, e_dOf, e_fzOf, e_fz, e_ow, e_gSl0, e_gSlS, e_gFz0, e_gFzS, e_kC, e_aNil, e_aCons, e_dLst, e_dTup, e_b2, e_pI, e_pAddI, e_pAddL, e_callD, e_bOf, e_bNot, e_bTru, e_truB, e_bAnd, e_bOr, e_vAnd, e_bYes, e_pLenL, e_pLenT, e_pAbs, e_pListOf, e_pIxL, e_pIxT, e_vIsi, e_iLst, e_iEnm, e_gNm, e_oNil, e_oSeq, e_oSet, e_oRet, e_oIf, e_oFor, e_oFrz, e_vLc, e_frz0w, e_frz0f, e_frzS, e_wipeN, e_wipeC, e_oRetV, e_oApp, e_oExt, e_iOwn, e_iOwnE, e_gTpl2, e_pEqI, e_pNeI, e_pNeB, e_pEqB, e_vChain, e_vNeg, e_vRev, e_oInt, e_dSl, e_vNot, e_vOr, e_vLc2, e_isiL, e_isiI, e_isiB, e_isBB, e_oPar, e_oAug, e_oRevS, e_vIf, e_gGh, e_vRepL, e_pInt1B, e_oAugIx, e_mUnp, e_mPar2, e_mPar3, e_xTup, e_xLst, e_allN, e_allC, e_mDrp2, e_gTpl3, e_oSwap, e_vCallT, e_xCallO, e_mIns, e_mSetIx, e_vLend, e_flatO, e_flatFB, e_flatFI, e_isB, e_isNotBB, e_oUnp, e_iZp, e_oSetIxM, e_oIns, e_oWhile, e_xPV, e_xP, e_xPB, e_xPI, e_xV, e_xFz, e_x2, e_x2N, e_xB, e_xGix, e_mNil, e_mSeq, e_mIf, e_mRet, e_mSet, e_mGset, e_mGaug, e_mLft, e_mFor, e_mApp, e_gaNil, e_gaV, e_gaG, e_xCallG, Nat.reduceLT, Nat.reduceLeDiff, c0, pq, ss, pn, is, ln, lnj, dl, it, lp1]) [some (.fz (.list (rows T))), some (.fz .none), none, none] ⟨_, _, _, rfl, .inl ⟨rfl, rfl⟩⟩
  rw [← rr'] at lp
  unfold m_law_rise mirror g_law_rise startE
  generalize g_law_rise_b2 = b2' at lp
  generalize rows T = RT at lp
  simp only [List.map_cons, List.map_nil, List.length_cons, List.length_nil, List.replicate, List.cons_append, List.nil_append, List.getElem?_cons_zero, List.getElem?_cons_succ, List.set_cons_succ, List.set_cons_zero, Nat.reduceSub, Nat.zero_add, Nat.reduceAdd, Option.map_some, Option.map_none, Option.bind_some, if_true, List.length_map, List.length_range, e_setE0, e_setES, e_dOf, e_fzOf, e_fz, e_ow, e_gSl0, e_gSlS, e_gFz0, e_gFzS, e_kC, e_aNil, e_aCons, e_dLst, e_dTup, e_b2, e_pI, e_pAddI, e_pAddL, e_callD, e_bOf, e_bNot, e_bTru, e_truB, e_bAnd, e_bOr, e_vAnd, e_bYes, e_pLenL, e_pLenT, e_pAbs, e_pListOf, e_pIxL, e_pIxT, e_vIsi, e_iLst, e_iEnm, e_gNm, e_oNil, e_oSeq, e_oSet, e_oRet, e_oIf, e_oFor, e_oFrz, e_vLc, e_frz0w, e_frz0f, e_frzS, e_wipeN, e_wipeC, e_oRetV, e_oApp, e_oExt, e_iOwn, e_iOwnE, e_gTpl2, e_pEqI, e_pNeI, e_pNeB, e_pEqB, e_vChain, e_vNeg, e_vRev, e_oInt, e_dSl, e_vNot, e_vOr, e_vLc2, e_isiL, e_isiI, e_isiB, e_isBB, e_oPar, e_oAug, e_oRevS, e_vIf, e_gGh, e_vRepL, e_pInt1B, e_oAugIx, e_mUnp, e_mPar2, e_mPar3, e_xTup, e_xLst, e_allN, e_allC, e_mDrp2, e_gTpl3, e_oSwap, e_vCallT, e_xCallO, e_mIns, e_mSetIx, e_vLend, e_flatO, e_flatFB, e_flatFI, e_isB, e_isNotBB, e_oUnp, e_iZp, e_oSetIxM, e_oIns, e_oWhile, e_xPV, e_xP, e_xPB, e_xPI, e_xV, e_xFz, e_x2, e_x2N, e_xB, e_xGix, e_mNil, e_mSeq, e_mIf, e_mRet, e_mSet, e_mGset, e_mGaug, e_mLft, e_mFor, e_mApp, e_gaNil, e_gaV, e_gaG, e_xCallG, Nat.reduceLT, Nat.reduceLeDiff, lp]
theorem e_oAppF {j : Nat} {f : En → Option PyData} {Θ : En2} : oAppF j f Θ = (match Θ[j]?, f (prj Θ) with
  | some (some (.dw xss)), some _ => if xss.length < cap then some (.nx (Θ.set j none)) else none
  | _, _ => none) := id rfl
theorem e_oForApp' {j ix : Nat} {f : En → Option PyData} {Θ : En2} : oForApp j ix f Θ = (match Θ[j]? with
  | some (some (.dw xss)) => if ix ≠ j ∧ ix < Θ.length ∧ xss.all (fun xs => decide (xs.length < cap)) = true then (f (prj (Θ.set ix none))).map fun d => .nx ((Θ.set ix none).set j (some (.dw (appG (fun _ xs => xs ++ [d]) xss)))) else none
  | _ => none) := id rfl
theorem e_owD {f : En → Option (List (List PyData))} {Γ : En} : owD f Γ = (f Γ).map fun xss => .ow (xss.map PyData.list) := id rfl
theorem tail_spec {o : List (List Int)} (hl : o.length ≤ 14) {B : Nat → List Int} (G : Gr o B) (sD mD : PyData) : (oSeq2 (lft [5] (oSet 4 (fzOf (dOf (callD m_law_copy (aCons (gFz 3) aNil))))))
  (oSeq2 (oSetD 5 (callDD mD_stairs (aCons (gFz 4) aNil)))
  (oSeq2 (lft [5] (oSet 6 (fzOf (dOf (owD (callDD mD_law_due (aCons (dOf (callD m_growth (aCons (dOf (callD m_law_copy (aCons (gFz 3) aNil))) aNil))) aNil)))))))
  (oSeq2 (vwG [5] [] (oIf (bOr (bNot (bTru (dOf (vIsi "list" (gSl 5))))) (bOr (bOf (b2 pNe (gSl 5) (gSl 6))) (bOr (bNot (bTru (dOf (callD m_law_rise (aCons (gFz 6) aNil))))) (bOf (b2 pNe (gSl 4) (gSl 3))))))
  (oSeq (oRet (fzOf (kC (.bool false))))
  oNil)
  oNil))
  (oSeq2 (lft [5] (oIf (bOr (bOf (b2 pNe (dOf (vLc (iLst (gSl 6)) (gNm 7) bYes (dOf (callD pLen (aCons (gSl 7) aNil))) [7])) (dOf (callD m_bands (aCons (dOf (callD m_law_copy (aCons (gFz 3) aNil))) aNil))))) (bOf (b2 pNe (dOf (callD pSum (aCons (dOf (vLc (iLst (gSl 6)) (gNm 7) bYes (dOf (callD pLen (aCons (gSl 7) aNil))) [7])) aNil))) (dOf (callD pLen (aCons (gSl 3) aNil))))))
  (oSeq (oRet (fzOf (kC (.bool false))))
  oNil)
  oNil))
  (oSeq2 (oForApp 5 7 (kC (.int 0)))
  (oSeq2 (oAppF 5 (dOf (dLst (aCons (kC (.int 0)) aNil))))
  (oSeq2 (lft [5] (oRet (vOr (b2 pGt (dOf (callD pLen (aCons (gSl 3) aNil))) (kC (.int 9))) (vAnd (b2 pEq (dOf (owD (callDD mD_stairs (aCons (gFz 4) aNil)))) (gSl 6)) (b2 pEq (gSl 4) (gSl 3))))))
  oNil2)))))))) (upE [some (.fz sD), none, some (.fz mD), some (.fz (.list (rows o))), none, none, none, none]) = some (.rt (.sl (.fz (.bool true)))) := by
  obtain ⟨rr, W⟩ := gw_ex G
  have cp := copy_spec o (by omega)
  have g1 := growth_spec hl G
  have st := stairs_spec hl G W
  have du := due_spec hl G W
  have lw := G.ln o.length (Nat.le_refl _)
  have ri := rise_spec W hl lw
  have sp := G.sp o.length (Nat.le_refl _)
  rw [List.take_length] at sp
  have lr : (rows o).length = o.length := by unfold rows; rw [List.length_map]
  generalize hT : Fl.tabI rr (B o.length).length o.length = T at ri
  have hTD : tD rr (B o.length).length o.length = T.map nums := by unfold tD; rw [hT]
  rw [hTD] at st du
  have lT : T.length = (B o.length).length := by rw [← hT, Fl.tabI_len]
  have vwT : (T.map nums).map PyData.list = rows T := by rw [List.map_map]; rfl
  have lrT : (rows T).length = T.length := by unfold rows; rw [List.length_map]
  have cT : T.length < cap := by rw [cap_eq]; omega
  have lens : T.map (fun r => (r.length : Int)) = B o.length := by rw [← hT]; exact W.lens_eq
  have lc : ∀ y5, lcD (gNm 7) bYes (dOf (callD pLen (aCons (gSl 7) aNil))) [some (.fz sD), none, some (.fz mD), some (.fz (.list (rows o))), some (.fz (.list (rows o))), y5, some (.fz (.list (rows T))), none] (rows T) = some (nums (B o.length)) := fun y5 => by
    rw [← lens]
    have key : ∀ Γ : En, (∀ r ∈ T, (gNm 7 (rowD r) Γ).bind (dOf (callD pLen (aCons (gSl 7) aNil))) = some (.int (r.length : Int))) → lcD (gNm 7) bYes (dOf (callD pLen (aCons (gSl 7) aNil))) Γ (rows T) = some (nums (T.map fun r => (r.length : Int))) := fun Γ hk => by
      unfold nums
      rw [List.map_map]
      exact lcD_map rowD _ T hk
    refine key _ fun r _ => ?_
    have lnr : (nums r).length = r.length := List.length_map ..
    unfold rowD
    generalize nums r = R at lnr
    generalize rows T = RT
    generalize rows o = RO
    simp only [List.map_cons, List.map_nil, List.length_cons, List.length_nil, List.replicate, List.cons_append, List.nil_append, List.getElem?_cons_zero, List.getElem?_cons_succ, List.set_cons_succ, List.set_cons_zero, Nat.reduceSub, Nat.zero_add, Nat.reduceAdd, Option.map_some, Option.map_none, Option.bind_some, if_true, List.length_map, List.length_range, e_setE0, e_setES, e_dOf, e_fzOf, e_fz, e_ow, e_gSl0, e_gSlS, e_gFz0, e_gFzS, e_kC, e_aNil, e_aCons, e_dLst, e_dTup, e_b2, e_pI, e_pAddI, e_pAddL, e_callD, e_bOf, e_bNot, e_bTru, e_truB, e_bAnd, e_bOr, e_vAnd, e_bYes, e_pLenL, e_pLenT, e_pAbs, e_pListOf, e_pIxL, e_pIxT, e_vIsi, e_iLst, e_iEnm, e_gNm, e_oNil, e_oSeq, e_oSet, e_oRet, e_oIf, e_oFor, e_oFrz, e_vLc, e_frz0w, e_frz0f, e_frzS, e_wipeN, e_wipeC, e_oRetV, e_oApp, e_oExt, e_iOwn, e_iOwnE, e_gTpl2, e_pEqI, e_pNeI, e_pNeB, e_pEqB, e_vChain, e_vNeg, e_vRev, e_oInt, e_dSl, e_vNot, e_vOr, e_vLc2, e_isiL, e_isiI, e_isiB, e_isBB, e_oPar, e_oAug, e_oRevS, e_vIf, e_gGh, e_vRepL, e_pInt1B, e_oAugIx, e_mUnp, e_mPar2, e_mPar3, e_xTup, e_xLst, e_allN, e_allC, e_mDrp2, e_gTpl3, e_oSwap, e_vCallT, e_xCallO, e_mIns, e_mSetIx, e_vLend, e_flatO, e_flatFB, e_flatFI, e_isB, e_isNotBB, e_oUnp, e_iZp, e_oSetIxM, e_oIns, e_oWhile, e_xPV, e_xP, e_xPB, e_xPI, e_xV, e_xFz, e_x2, e_x2N, e_xB, e_xGix, e_mNil, e_mSeq, e_mIf, e_mRet, e_mSet, e_mGset, e_mGaug, e_mLft, e_mFor, e_mApp, e_gaNil, e_gaV, e_gaG, e_xCallG, Nat.reduceLT, Nat.reduceLeDiff, lnr]
  have sm : pSum [.list (nums (B o.length))] = some (.fz (.int (o.length : Int))) := by rw [e_pSum, G.sm o.length (Nat.le_refl _)]
  have pB := pNe_nums (B o.length)
  have pT := pNe_rows T
  have eT := pEq_rows T
  have pr := pNe_rows o
  have pe := pEq_rows o
  have c1 : (1 : Nat) ≤ cap := by rw [cap_eq]; decide
  have hall : ∀ x ∈ T.map nums, x.length < cap := fun x hx => by
    obtain ⟨r, hr, rfl⟩ := List.mem_map.mp hx
    rw [← hT] at hr
    unfold Fl.tabI at hr
    obtain ⟨i, _, rfl⟩ := List.mem_map.mp hr
    exact row_cap (by omega)
  have hA := eq_true hall
  have al : (appG (fun _ xs => xs ++ [PyData.int 0]) (T.map nums)).length = T.length := by unfold appG; simp
  have flB : flatS (.fz (.bool true)) = true := rfl
  have is : isTy "list" (.list (rows T)) = true := e_isiL
  generalize m_law_copy = q1 at cp
  generalize mD_stairs = q2 at st
  generalize m_growth = q3 at g1
  generalize mD_law_due = q4 at du
  generalize m_law_rise = q5 at ri
  generalize m_bands = q6 at sp
  generalize T.map nums = TN at st du vwT hA al
  generalize nums (B o.length) = NB at sp lc sm pB
  generalize rows (shs B o.length) = RS at g1 du
  generalize rows T = RT at ri vwT lrT lc pT eT is
  generalize rows o = RO at cp g1 st sp lr lc pr pe
  have q0 : ((o.length : Int) == (o.length : Int)) = true := beq_self_eq_true _
  cases q9 : decide ((9 : Int) < (o.length : Int))
  · simp (maxSteps := 2000000) [upE, cp, g1, st, du, e_owD, vwT, is, pT, ri, pr, lrT, cT, lc, sp, pB, sm, lr, e_oForApp', hA, e_oAppF, c1, al, q9, eT, pe, flB]
  · simp (maxSteps := 2000000) [upE, cp, g1, st, du, e_owD, vwT, is, pT, ri, pr, lrT, cT, lc, sp, pB, sm, lr, e_oForApp', hA, e_oAppF, c1, al, q9, eT, pe, flB]
theorem law_spec (s : List Int) (hs : s.length ≤ 63) : m_law [.list (nums s)] = some (.fz (.bool true)) := by
  obtain ⟨u0, v0, h0⟩ := stock_spec s 0
  replace h0 : m_law_stock [.list (nums s), .int 0] = _ := h0
  obtain ⟨d, a1, b1, e1, _, _⟩ := take_at u0 v0 8 (by decide) (by decide)
  have key : ∀ most : Int, 1 ≤ most → most ≤ 14 → ∃ (o : List (List Int)) (n1 a2 b2 a3 b3 : Int), mG_law_take [none, some (.int (most + 1))] [.int a1, .int b1] = some (.fz (.int n1), [.int a2, .int b2]) ∧ mG_law_order [none, some (.int n1)] [.int a2, .int b2] = some (.ow (rows o), [.int a3, .int b3]) ∧ IsOrd o ∧ o.length ≤ 14 := fun most m0 m1 => by
    obtain ⟨n1, a2, b2, t1, n10, n11⟩ := take_at a1 b1 (most + 1) (by omega) (by omega)
    obtain ⟨N1, rfl⟩ : ∃ N : Nat, n1 = (N : Int) := ⟨n1.toNat, by omega⟩
    obtain ⟨o1, a3, b3, p1, l1, i1⟩ := order_specS a2 b2 N1 (by omega)
    exact ⟨o1, _, a2, b2, a3, b3, t1, p1, i1, by omega⟩
  unfold m_law mirror g_law startE
  by_cases hz : d = 7
  · have hz' : (d == 7) = true := by simpa using hz
    obtain ⟨o, n1, a2, b2, a3, b3, t1, p1, i1, l1⟩ := key 14 (by decide) (by decide)
    obtain ⟨B, G⟩ := gr_ex o i1 l1
    have tl := tail_spec l1 G (.list (nums s)) (.int 14)
    generalize mG_law_take = k1 at *
    generalize mG_law_order = k2 at *
    generalize m_law_stock = k3 at *
    generalize (oSeq2 _ _ : En2 → Option Out2) = K at tl ⊢
    simp only [List.map_cons, List.map_nil, List.length_cons, List.length_nil, List.replicate, List.cons_append, List.nil_append, List.getElem?_cons_zero, List.getElem?_cons_succ, List.set_cons_succ, List.set_cons_zero, Nat.reduceSub, Nat.zero_add, Nat.reduceAdd, Option.map_some, Option.map_none, Option.bind_some, if_true, List.length_map, List.length_range, e_setE0, e_setES, e_dOf, e_fzOf, e_fz, e_ow, e_gSl0, e_gSlS, e_gFz0, e_gFzS, e_kC, e_aNil, e_aCons, e_dLst, e_dTup, e_b2, e_pI, e_pAddI, e_pAddL, e_callD, e_bOf, e_bNot, e_bTru, e_truB, e_bAnd, e_bOr, e_vAnd, e_bYes, e_pLenL, e_pLenT, e_pAbs, e_pListOf, e_pIxL, e_pIxT, e_vIsi, e_iLst, e_iEnm, e_gNm, e_oNil, e_oSeq, e_oSet, e_oRet, e_oIf, e_oFor, e_oFrz, e_vLc, e_frz0w, e_frz0f, e_frzS, e_wipeN, e_wipeC, e_oRetV, e_oApp, e_oExt, e_iOwn, e_iOwnE, e_gTpl2, e_pEqI, e_pNeI, e_pNeB, e_pEqB, e_vChain, e_vNeg, e_vRev, e_oInt, e_dSl, e_vNot, e_vOr, e_vLc2, e_isiL, e_isiI, e_isiB, e_isBB, e_oPar, e_oAug, e_oRevS, e_vIf, e_gGh, e_vRepL, e_pInt1B, e_oAugIx, e_mUnp, e_mPar2, e_mPar3, e_xTup, e_xLst, e_allN, e_allC, e_mDrp2, e_gTpl3, e_oSwap, e_vCallT, e_xCallO, e_mIns, e_mSetIx, e_vLend, e_flatO, e_flatFB, e_flatFI, e_isB, e_isNotBB, e_oUnp, e_iZp, e_oSetIxM, e_oIns, e_oWhile, e_xPV, e_xP, e_xPB, e_xPI, e_xV, e_xFz, e_x2, e_x2N, e_xB, e_xGix, e_mNil, e_mSeq, e_mIf, e_mRet, e_mSet, e_mGset, e_mGaug, e_mLft, e_mFor, e_mApp, e_gaNil, e_gaV, e_gaG, e_xCallG, Nat.reduceLT, Nat.reduceLeDiff, h0, e1, hz', t1, p1, tl]
  · have hz' : (d == 7) = false := by simpa using hz
    obtain ⟨o, n1, a2, b2, a3, b3, t1, p1, i1, l1⟩ := key 9 (by decide) (by decide)
    obtain ⟨B, G⟩ := gr_ex o i1 l1
    have tl := tail_spec l1 G (.list (nums s)) (.int 9)
    generalize mG_law_take = k1 at *
    generalize mG_law_order = k2 at *
    generalize m_law_stock = k3 at *
    generalize (oSeq2 _ _ : En2 → Option Out2) = K at tl ⊢
    simp only [List.map_cons, List.map_nil, List.length_cons, List.length_nil, List.replicate, List.cons_append, List.nil_append, List.getElem?_cons_zero, List.getElem?_cons_succ, List.set_cons_succ, List.set_cons_zero, Nat.reduceSub, Nat.zero_add, Nat.reduceAdd, Option.map_some, Option.map_none, Option.bind_some, if_true, List.length_map, List.length_range, e_setE0, e_setES, e_dOf, e_fzOf, e_fz, e_ow, e_gSl0, e_gSlS, e_gFz0, e_gFzS, e_kC, e_aNil, e_aCons, e_dLst, e_dTup, e_b2, e_pI, e_pAddI, e_pAddL, e_callD, e_bOf, e_bNot, e_bTru, e_truB, e_bAnd, e_bOr, e_vAnd, e_bYes, e_pLenL, e_pLenT, e_pAbs, e_pListOf, e_pIxL, e_pIxT, e_vIsi, e_iLst, e_iEnm, e_gNm, e_oNil, e_oSeq, e_oSet, e_oRet, e_oIf, e_oFor, e_oFrz, e_vLc, e_frz0w, e_frz0f, e_frzS, e_wipeN, e_wipeC, e_oRetV, e_oApp, e_oExt, e_iOwn, e_iOwnE, e_gTpl2, e_pEqI, e_pNeI, e_pNeB, e_pEqB, e_vChain, e_vNeg, e_vRev, e_oInt, e_dSl, e_vNot, e_vOr, e_vLc2, e_isiL, e_isiI, e_isiB, e_isBB, e_oPar, e_oAug, e_oRevS, e_vIf, e_gGh, e_vRepL, e_pInt1B, e_oAugIx, e_mUnp, e_mPar2, e_mPar3, e_xTup, e_xLst, e_allN, e_allC, e_mDrp2, e_gTpl3, e_oSwap, e_vCallT, e_xCallO, e_mIns, e_mSetIx, e_vLend, e_flatO, e_flatFB, e_flatFI, e_isB, e_isNotBB, e_oUnp, e_iZp, e_oSetIxM, e_oIns, e_oWhile, e_xPV, e_xP, e_xPB, e_xPI, e_xV, e_xFz, e_x2, e_x2N, e_xB, e_xGix, e_mNil, e_mSeq, e_mIf, e_mRet, e_mSet, e_mGset, e_mGaug, e_mLft, e_mFor, e_mApp, e_gaNil, e_gaV, e_gaG, e_xCallG, Nat.reduceLT, Nat.reduceLeDiff, h0, e1, hz', t1, p1, tl]
