import PyProof.Rows.All
import Wide.All
import OpenK.AllK
import Wide.FinOn
import PyProof.EqAt
import PyProof.EqKinds
import PyProof.TupleCall
import KE.BitLaws
import PyProof.Rows.SortRev
import KE.KDictSum
import PySem.Challenge.RW_bandorder_k29_merged_and_added
set_option Elab.async false
set_option linter.all false
set_option maxRecDepth 100000
namespace L2
open PySem PySem.Spec PyProof.Rows
abbrev Key := Sum Int Str
def keyIs : Key → Value → Bool
  | .inl k, v => Value.isInt k v
  | .inr x, v => Value.isStrOf x v
def keyH (w : World) : Key → Int
  | .inl k => hashInt k
  | .inr x => hashStr w x
theorem keyIs_shape : ∀ {k : Key} {v : Value}, keyIs k v = true → (∃ i t, k = Sum.inl i ∧ v = Value.int i t) ∨ (∃ x t, k = Sum.inr x ∧ v = Value.str x t)
  | .inl i, v, h => by
    obtain ⟨t, e⟩ := Value.isInt_shape (k := i) (v := v) h
    exact .inl ⟨i, t, rfl, e⟩
  | .inr x, v, h => by
    obtain ⟨t, e⟩ := Value.isStrOf_shape (x := x) (v := v) h
    exact .inr ⟨x, t, rfl, e⟩
theorem key_ll (a b : Int) : decide ((Sum.inl a : Key) = Sum.inl b) = (a == b) := by
  by_cases e : a = b
  · subst e; simp
  · have h : ¬ (Sum.inl a : Key) = Sum.inl b := fun q => e (Sum.inl.inj q)
    rw [decide_eq_false h]
    exact (beq_eq_false_iff_ne.mpr e).symm
theorem key_rr (a b : Str) : decide ((Sum.inr a : Key) = Sum.inr b) = decide (a = b) := by
  by_cases e : a = b
  · subst e; simp
  · have h : ¬ (Sum.inr a : Key) = Sum.inr b := fun q => e (Sum.inr.inj q)
    rw [decide_eq_false h, decide_eq_false e]
theorem key_lr (a : Int) (b : Str) : decide ((Sum.inl a : Key) = Sum.inr b) = false := decide_eq_false (fun q => nomatch q)
theorem key_rl (a : Str) (b : Int) : decide ((Sum.inr a : Key) = Sum.inl b) = false := decide_eq_false (fun q => nomatch q)
def mixKind (prog : Program) (w : World) : PySem.KeyKind prog w Key where
  is := keyIs
  hash := keyH w
  inj := fun v a b ha hb => by
    rcases keyIs_shape ha with ⟨i, t, rfl, rfl⟩ | ⟨x, t, rfl, rfl⟩
    · rcases keyIs_shape hb with ⟨j, u, rfl, e⟩ | ⟨y, u, rfl, e⟩
      · injection e with e1 _; rw [e1]
      · exact nomatch e
    · rcases keyIs_shape hb with ⟨j, u, rfl, e⟩ | ⟨y, u, rfl, e⟩
      · exact nomatch e
      · injection e with e1 _; rw [e1]
  byValue := fun k v h => by
    rcases keyIs_shape h with ⟨i, t, rfl, rfl⟩ | ⟨x, t, rfl, rfl⟩ <;> rfl
  pyHash := fun hv h => by
    rcases keyIs_shape hv with ⟨i, t, rfl, rfl⟩ | ⟨x, t, rfl, rfl⟩
    · exact wpAny_pyHash_int h
    · exact wpAny_pyHash_str h
  eqBool := fun hu hv h => by
    rcases keyIs_shape hu with ⟨i, t, rfl, rfl⟩ | ⟨x, t, rfl, rfl⟩
    · rcases keyIs_shape hv with ⟨j, u, rfl, rfl⟩ | ⟨y, u, rfl, rfl⟩
      · rw [key_ll] at h; exact wpAny_eqBool_int h
      · rw [key_lr] at h; exact SeqAt.EqAt.int_str i t y u _ _ _ _ h
    · rcases keyIs_shape hv with ⟨j, u, rfl, rfl⟩ | ⟨y, u, rfl, rfl⟩
      · rw [key_rl] at h; exact SeqAt.EqAt.str_int x t j u _ _ _ _ h
      · rw [key_rr] at h; exact wpAny_eqBool_str h
  «strs» := fun k x t v h => by
    rcases keyIs_shape h with ⟨i, u, rfl, e⟩ | ⟨y, u, rfl, e⟩
    · exact nomatch e
    · injection e with e1 _
      subst e1
      cases v <;> rfl
end L2
namespace L2
open PySem PySem.Spec PyProof.Rows
inductive V where
  | non | bl (b : Bool) | int (i : Int) | str (x : Str) | byt (b : Array UInt8) | flt (b : UInt64) | ref (a : Addr) | ty (n : String)
  deriving DecidableEq
def RelV : V → Value → Prop
  | .non, u => u = Value.none
  | .bl b, u => u = Value.bool b
  | .int i, u => ∃ t, u = Value.int i t
  | .str x, u => ∃ t, u = Value.str x t
  | .byt b, u => ∃ t, u = Value.bytes b t
  | .flt b, u => ∃ t, u = Value.float b t
  | .ref a, u => u = Value.ref a
  | .ty n, u => u = Value.type n
abbrev Vals : List V → List Value → Prop := Paired RelV
theorem Vals.length {xs : List V} {us : List Value} (r : Vals xs us) : xs.length = us.length := Paired.length r
theorem Vals.get : ∀ {xs : List V} {us : List Value} {i : Nat} {x : V}, Vals xs us → xs[i]? = some x → ∃ u, us[i]? = some u ∧ RelV x u
  | _, _, _, _, .nil, e => by simp at e
  | _, _, 0, _, .cons r _, e => by simp at e; subst e; exact ⟨_, rfl, r⟩
  | _, _, i + 1, x, .cons _ t, e => by
    obtain ⟨u, h1, h2⟩ := Vals.get (i := i) (x := x) t (by simpa using e)
    exact ⟨u, by simpa using h1, h2⟩
theorem Vals.set {x : V} {u : Value} (r : RelV x u) : ∀ {xs : List V} {us : List Value} (i : Nat), Vals xs us → Vals (xs.set i x) (us.set i u)
  | _, _, _, .nil => .nil
  | _, _, 0, .cons _ t => .cons r t
  | _, _, i + 1, .cons q t => .cons q (Vals.set r i t)
theorem Vals.append : ∀ {xs ys : List V} {us ws : List Value}, Vals xs us → Vals ys ws → Vals (xs ++ ys) (us ++ ws)
  | _, _, _, _, .nil, s => s
  | _, _, _, _, .cons r t, s => .cons r (Vals.append t s)
theorem Vals.take : ∀ {xs : List V} {us : List Value} (n : Nat), Vals xs us → Vals (xs.take n) (us.take n)
  | _, _, 0, _ => .nil
  | _, _, _ + 1, .nil => .nil
  | _, _, n + 1, .cons r t => .cons r (Vals.take n t)
theorem Vals.drop : ∀ {xs : List V} {us : List Value} (n : Nat), Vals xs us → Vals (xs.drop n) (us.drop n)
  | _, _, 0, r => r
  | _, _, _ + 1, .nil => .nil
  | _, _, n + 1, .cons _ t => Vals.drop n t
def RelO : Option V → Option Value → Prop
  | some v, some u => RelV v u
  | none, none => True
  | _, _ => False
def KV {κ : Type} : List (κ × V) → List (κ × Value) → Prop := Paired fun (p : κ × V) (q : κ × Value) => p.1 = q.1 ∧ RelV p.2 q.2
def kV : Key → V
  | .inl i => .int i
  | .inr x => .str x
inductive HO where
  /-- a list -/
  | lst (xs : List V)
  /-- a tuple (never changes) -/
  | tup (xs : List V)
  /-- a dict whose keys are ints and texts; one whose keys are tuples of ints and texts (the empty one is both) -/
  | dK (kvs : List (Key × V)) | dT (kvs : List (List Key × V))
  /-- a set of ints: its members, its size -/
  | set (S : Int → Bool) (n : Nat)
  /-- an instance of the class at C, its dict at dx, its attributes -/
  | ins (C dx : Addr) (fs : List (Str × V))
  /-- the dict of the instance at x -/
  | own (x : Addr)
  /-- the dict of an exception -/
  | xd (fs : List (Str × V))
  /-- a bound method, f of x -/
  | met (f x : Addr)
  /-- a range object lo, lo + 1, .. below hi -/
  | rng (lo hi : Int)
  /-- a thing that is known to the object (the script; a dict while a loop walks it): read, never written while it is so -/
  | frz (o : Obj) (u : HO)
  /-- a code object's table -/
  | tbl (ps : Array Value)
  /-- any other thing, by what is true of its one object (a def of one's own: SetO a S n := HO.ext fun h => ..) -/
  | ext (φ : Heap → Prop)
abbrev Hp := Addr → Option HO
def upd (H : Hp) (a : Addr) (o : HO) : Hp := fun b => if b = a then some o else H b
theorem upd_same {H : Hp} {a : Addr} {o : HO} : upd H a o a = some o := by unfold upd; rw [if_pos rfl]
theorem upd_ne {H : Hp} {a b : Addr} {o : HO} (h : b ≠ a) : upd H a o b = H b := by unfold upd; rw [if_neg h]
theorem ne_of_none {H : Hp} {a b : Addr} {o : HO} (h : H a = some o) (h' : H b = none) : a ≠ b := by
  intro e; subst e; rw [h] at h'; cases h'
section
variable (P : Program) (w : World)
def ObjOk (H : Hp) (h : Heap) (a : Addr) : HO → Prop
  | .lst xs => xs.length ≤ sizeLine ∧ ∃ (its : List Value) (n : Nat), Vals xs its ∧ h.get? a = some { cls := .type "list", data := .seq its.toArray n }
  | .tup xs => xs.length ≤ sizeLine ∧ ∃ its : List Value, Vals xs its ∧ IsTup h a its.toArray
  | .dK kvs => kvs.length ≤ sizeLine ∧ (a == sysModules) = false ∧ ∃ vs, KV kvs vs ∧ h.DictOf (mixKind P w) a vs
  | .dT kvs => kvs.length ≤ sizeLine ∧ (a == sysModules) = false ∧ ∃ xs : List (List Key × Addr × Value),
      Paired (fun (p : List Key × V) (q : List Key × Addr × Value) => p.1 = q.1 ∧ H q.2.1 = some (.tup (p.1.map kV)) ∧ RelV p.2 q.2.2) kvs xs ∧
      ∃ o es ep, h.get? a = some o ∧ o.ExactDict ∧ o.data = .dict es ep ∧ es.toList = xs.map (entryOfKey (tupleKind (mixKind P w))) ∧ (xs.map (·.1)).Nodup
  | .set S n => h.SetOf (intKind P w) a S n
  | .ins C dx fs => H dx = some (.own a) ∧ fs.length ≤ 1000 ∧ dx ≠ a ∧ h.get? a = some (PySem.W.instObj C dx) ∧
      ∃ mA, h.Ns1 dx mA ∧ (∀ f, RelO (fs.lookup f) (mA f)) ∧ PySem.Within mA (fs.map (·.1))
  | .own _ => ∃ o, h.get? a = some o
  | .xd fs => ∃ mA, h.Ns1 a mA ∧ ∀ f, RelO (fs.lookup f) (mA f)
  | .rng lo hi => ∃ t u v, h.get? a = some { cls := .type "range", data := .fields #[.int lo t, .int hi u, .int 1 v] }
  | .frz o u => h.get? a = some o ∧ ObjOk H h a u
  | .tbl ps => h.get? a = some { cls := .none, data := .fields ps }
  | .met f x => h.get? a = some (PySem.W.methodObj (.ref f) (.ref x))
  | .ext φ => φ h ∧ (∃ o, h.get? a = some o) ∧ ∀ h1 h2 : Heap, φ h1 → (∀ o, h1.get? a = some o → h2.get? a = some o) → φ h2
def HOk (H : Hp) (h : Heap) : Prop := ∀ a o, H a = some o → ObjOk P w H h a o
end
section
variable {P : Program} {w : World} {H H' : Hp} {h h' : Heap} {a : Addr} {o : HO}
theorem ObjOk.lt (x : ObjOk P w H h a o) : a < h.objs.size := by
  cases o with
  | lst xs => obtain ⟨_, _, _, _, e⟩ := x; exact Heap.lt_size e
  | tup xs => obtain ⟨_, _, _, p⟩ := x; exact p.lt
  | dK kvs => obtain ⟨_, _, _, _, o, _, _, e, _⟩ := x; exact Heap.lt_size e
  | dT kvs => obtain ⟨_, _, _, _, o, _, _, e, _⟩ := x; exact Heap.lt_size e
  | set S n => obtain ⟨o, _, _, _, e, _⟩ := x; exact Heap.lt_size e
  | ins C dx fs => obtain ⟨_, _, _, e, _⟩ := x; exact Heap.lt_size e
  | own y => obtain ⟨_, e⟩ := x; exact Heap.lt_size e
  | xd fs => obtain ⟨_, ⟨_, _, _, e, _⟩, _⟩ := x; exact Heap.lt_size e
  | rng lo hi => obtain ⟨_, _, _, e⟩ := x; exact Heap.lt_size e
  | frz ob u => obtain ⟨e, _⟩ := x; exact Heap.lt_size e
  | tbl ps => exact Heap.lt_size (show h.get? a = some _ from x)
  | met f y => exact Heap.lt_size (show h.get? a = some _ from x)
  | ext φ => obtain ⟨_, ⟨_, e⟩, _⟩ := x; exact Heap.lt_size e
theorem Paired.mapP {α β : Type} {F G : α → β → Prop} : ∀ {l₁ : List α} {l₂ : List β}, Paired F l₁ l₂ → (∀ a b, F a b → G a b) → Paired G l₁ l₂
  | _, _, .nil, _ => .nil
  | _, _, .cons r t, f => .cons (f _ _ r) (Paired.mapP t f)
theorem ObjOk.stay (x : ObjOk P w H h a o) (k : ∀ b u, (b = a ∨ H b = some (.own a)) → h.get? b = some u → h'.get? b = some u)
    (ho : ∀ b, H b = some (.own a) → H' b = some (.own a)) (ht : ∀ b xs, H b = some (.tup xs) → H' b = some (.tup xs)) : ObjOk P w H' h' a o := by
  induction o with
  | lst xs => obtain ⟨z, its, n, r, e⟩ := x; exact ⟨z, its, n, r, k _ _ (.inl rfl) e⟩
  | tup xs => obtain ⟨z, its, r, ob, e, c⟩ := x; exact ⟨z, its, r, ob, k _ _ (.inl rfl) e, c⟩
  | dK kvs => obtain ⟨z, y, vs, r, ob, es, ep, e, c⟩ := x; exact ⟨z, y, vs, r, ob, es, ep, k _ _ (.inl rfl) e, c⟩
  | dT kvs =>
    obtain ⟨z, y, xs, r, ob, es, ep, e, c⟩ := x
    exact ⟨z, y, xs, Paired.mapP r fun p q z => ⟨z.1, ht _ _ z.2.1, z.2.2⟩, ob, es, ep, k _ _ (.inl rfl) e, c⟩
  | set S n => obtain ⟨ob, es, ep, t, e, c⟩ := x; exact ⟨ob, es, ep, t, k _ _ (.inl rfl) e, c⟩
  | ins C dx fs =>
    obtain ⟨d, z, ne, e, mA, ⟨od, es, ep, e2, c⟩, r⟩ := x
    exact ⟨ho _ d, z, ne, k _ _ (.inl rfl) e, mA, ⟨od, es, ep, k _ _ (.inr d) e2, c⟩, r⟩
  | own y => obtain ⟨ob, e⟩ := x; exact ⟨ob, k _ _ (.inl rfl) e⟩
  | xd fs => obtain ⟨mA, ⟨od, es, ep, e, c⟩, r⟩ := x; exact ⟨mA, ⟨od, es, ep, k _ _ (.inl rfl) e, c⟩, r⟩
  | rng lo hi => obtain ⟨t, u, v, e⟩ := x; exact ⟨t, u, v, k _ _ (.inl rfl) e⟩
  | frz ob u ih => obtain ⟨e, q⟩ := x; exact ⟨k _ _ (.inl rfl) e, ih q⟩
  | tbl ps =>
    have e : h.get? a = some { cls := .none, data := .fields ps } := x
    show h'.get? a = some { cls := .none, data := .fields ps }
    exact k a _ (.inl rfl) e
  | met f y =>
    have e : h.get? a = some (PySem.W.methodObj (.ref f) (.ref y)) := x
    show h'.get? a = some (PySem.W.methodObj (.ref f) (.ref y))
    exact k a _ (.inl rfl) e
  | ext φ => obtain ⟨p, ⟨o, e⟩, st⟩ := x; exact ⟨st _ _ p fun o q => k _ _ (.inl rfl) q, ⟨o, k _ _ (.inl rfl) e⟩, st⟩
theorem HOk.lt (x : HOk P w H h) (e : H a = some o) : a < h.objs.size := (x a o e).lt
theorem HOk.fresh (x : HOk P w H h) (e : h.objs.size ≤ a) : H a = none := by
  cases q : H a with
  | none => rfl
  | some u => exact absurd (Nat.lt_of_lt_of_le (x.lt q) e) (Nat.lt_irrefl _)
theorem HOk.kept (x : HOk P w H h) (k : ∀ b u, h.get? b = some u → h'.get? b = some u) : HOk P w H h' := fun a o e =>
  (x a o e).stay (fun b u _ q => k b u q) (fun _ q => q) fun _ _ q => q
theorem HOk.laid (x : HOk P w H h) (k : ∀ b u, h.get? b = some u → h'.get? b = some u) (hp : h.objs.size ≤ a) (new : ObjOk P w (upd H a o) h' a o) : HOk P w (upd H a o) h' := fun b u e => by
  have hn := x.fresh hp
  by_cases hb : b = a
  · subst hb; rw [upd_same] at e; cases e; exact new
  · rw [upd_ne hb] at e
    exact (x b u e).stay (fun c v _ q => k c v q) (fun c q => by rw [upd_ne (ne_of_none q hn)]; exact q) fun c xs q => by rw [upd_ne (ne_of_none q hn)]; exact q
end
def Rd (H : Hp) (a : Addr) (u : HO) : Prop := H a = some u ∨ ∃ o, H a = some (.frz o u)
theorem Rd.of {H : Hp} {a : Addr} {u : HO} (h : H a = some u) : Rd H a u := .inl h
theorem Rd.ok {P : Program} {w : World} {H : Hp} {h : Heap} {a : Addr} {u : HO} (r : Rd H a u) (x : HOk P w H h) : ObjOk P w H h a u := by
  rcases r with r | ⟨o, r⟩
  · exact x a u r
  · obtain ⟨_, q⟩ := x a _ r
    exact q
def Mut : Option HO → Prop
  | some (.lst _) => True
  | some (.dK _) => True
  | some (.dT _) => True
  | some (.set _ _) => True
  | some (.ins _ _ _) => True
  | some (.ext _) => True
  | _ => False
section
variable {P : Program} {w : World} {H : Hp} {h h' : Heap} {x e : Addr} {o' : HO}
theorem HOk.write (ok : HOk P w H h) (mu : Mut (H x)) (he : e = x ∨ H e = some (.own x)) (k : ∀ b u, b ≠ e → h.get? b = some u → h'.get? b = some u) (heo : ∃ u, h'.get? e = some u)
    (new : ObjOk P w (upd H x o') h' x o') : HOk P w (upd H x o') h' := fun b u q => by
  have nown : ∀ c y, H c = some (.own y) → c ≠ x := fun c y r z => by subst z; rw [r] at mu; exact mu
  have ntup : ∀ c xs, H c = some (.tup xs) → c ≠ x := fun c xs r z => by subst z; rw [r] at mu; exact mu
  by_cases hb : b = x
  · subst hb; rw [upd_same] at q; cases q; exact new
  · rw [upd_ne hb] at q
    by_cases hbe : b = e
    · have q' : H b = some (.own x) := by
        rcases he with z | z
        · exact absurd (hbe.trans z) hb
        · rw [hbe]; exact z
      rw [q] at q'; cases q'
      obtain ⟨v, hv⟩ := heo
      exact ⟨v, by rw [hbe]; exact hv⟩
    · refine (ok b u q).stay (fun c v hc r => k c v ?_ r) (fun c r => by rw [upd_ne (nown c b r)]; exact r) fun c xs r => by rw [upd_ne (ntup c xs r)]; exact r
      rcases hc with rfl | hc
      · exact hbe
      · rintro rfl
        rcases he with z | z
        · exact nown c b hc z
        · rw [hc] at z; cases z; exact hb rfl
end
structure Un (fs ex : List Addr) (H H' : Hp) (h h' : Heap) : Prop where
  keep : ∀ b o, h.get? b = some o → H b = none → b ∉ fs → b ∉ ex → h'.get? b = some o
  slot : ∀ b o, h.get? b = some o → H b = none → b ∈ fs → b ∉ ex → ∃ sl, h'.get? b = some { o with slots := sl }
  free : ∀ b o, h.get? b = some o → H b = none → b ∉ ex → H' b = none
  there : ∀ b o, h.get? b = some o → b ∉ ex → ∃ o', h'.get? b = some o'
  tups : ∀ b xs, H b = some (.tup xs) → H' b = some (.tup xs)
  frzs : ∀ b o u, H b = some (.frz o u) → H' b = some (.frz o u)
  tbls : ∀ b ps, H b = some (.tbl ps) → ∃ more, H' b = some (.tbl (ps ++ more))
section
variable {fs fs' ex ex' : List Addr} {H H1 H2 : Hp} {h h1 h2 h' : Heap} {a x e : Addr} {o : HO}
theorem Un.any (u : Un fs ex H H1 h h1) {b : Addr} {ob : Obj} (q : h.get? b = some ob) (n : H b = none) (hx : b ∉ ex) : ∃ sl, h1.get? b = some { ob with slots := sl } := by
  by_cases hb : b ∈ fs
  · exact u.slot b ob q n hb hx
  · exact ⟨ob.slots, u.keep b ob q n hb hx⟩
theorem Un.trans (a : Un fs ex H H1 h h1) (b : Un fs ex H1 H2 h1 h2) : Un fs ex H H2 h h2 where
  keep := fun c ob q n hc hx => b.keep c ob (a.keep c ob q n hc hx) (a.free c ob q n hx) hc hx
  slot := fun c ob q n hc hx => by
    obtain ⟨sl, e1⟩ := a.slot c ob q n hc hx
    obtain ⟨sl', e2⟩ := b.slot c _ e1 (a.free c ob q n hx) hc hx
    exact ⟨sl', e2⟩
  free := fun c ob q n hx => by
    obtain ⟨o', e1⟩ := a.there c ob q hx
    exact b.free c o' e1 (a.free c ob q n hx) hx
  there := fun c ob q hx => by
    obtain ⟨o', e1⟩ := a.there c ob q hx
    exact b.there c o' e1 hx
  tups := fun c xs q => b.tups c xs (a.tups c xs q)
  frzs := fun c ob xs q => b.frzs c ob xs (a.frzs c ob xs q)
  tbls := fun c ps q => by
    obtain ⟨m1, e1⟩ := a.tbls c ps q
    obtain ⟨m2, e2⟩ := b.tbls c _ e1
    exact ⟨m1 ++ m2, by rw [e2, Array.append_assoc]⟩
theorem Un.kept (k : ∀ b u, h.get? b = some u → h'.get? b = some u) : Un fs ex H H h h' :=
  ⟨fun b ob q _ _ _ => k b ob q, fun b ob q _ _ _ => ⟨ob.slots, k b ob q⟩, fun _ _ _ n _ => n, fun b ob q _ => ⟨ob, k b ob q⟩, fun _ _ q => q, fun _ _ _ q => q, fun _ ps q => ⟨#[], by rw [q]; simp⟩⟩
theorem Un.refl : Un fs ex H H h h := Un.kept fun _ _ q => q
theorem Un.laid (k : ∀ b u, h.get? b = some u → h'.get? b = some u) (hp : h.objs.size ≤ a) (hn : H a = none) : Un fs ex H (upd H a o) h h' where
  keep := fun b u q _ _ _ => k b u q
  slot := fun b u q _ _ _ => ⟨u.slots, k b u q⟩
  free := fun b u q n _ => by rw [upd_ne (Nat.ne_of_lt (Nat.lt_of_lt_of_le (Heap.lt_size q) hp))]; exact n
  there := fun b u q _ => ⟨u, k b u q⟩
  tups := fun b xs q => by rw [upd_ne (ne_of_none q hn)]; exact q
  frzs := fun b u xs q => by rw [upd_ne (ne_of_none q hn)]; exact q
  tbls := fun b ps q => ⟨#[], by rw [upd_ne (ne_of_none q hn), q]; simp⟩
theorem Un.write (mu : Mut (H x)) (he : e = x ∨ H e = some (.own x)) (k : ∀ b u, b ≠ e → h.get? b = some u → h'.get? b = some u) (heo : ∃ u, h'.get? e = some u) : Un fs ex H (upd H x o) h h' := by
  have hx : ∀ b, H b = none → b ≠ x := fun b n z => by subst z; rw [n] at mu; exact mu
  have hb : ∀ b, H b = none → b ≠ e := fun b n z => by
    subst z
    rcases he with r | r
    · exact hx b n r
    · rw [n] at r; cases r
  have hm : ∀ b u, H b = some u → ¬ Mut (some u) → b ≠ x := fun b u q nm z => by subst z; rw [q] at mu; exact nm mu
  refine ⟨fun b u q n _ _ => k b u (hb b n) q, fun b u q n _ _ => ⟨u.slots, k b u (hb b n) q⟩, fun b u q n _ => by rw [upd_ne (hx b n)]; exact n, fun b u q _ => ?_,
    fun b xs q => by rw [upd_ne (hm b _ q fun z => z)]; exact q, fun b u xs q => by rw [upd_ne (hm b _ q fun z => z)]; exact q, fun b ps q => ⟨#[], by rw [upd_ne (hm b _ q fun z => z), q]; simp⟩⟩
  by_cases hbe : b = e
  · subst hbe; exact heo
  · exact ⟨u, k b u hbe q⟩
theorem Un.mono (u : Un fs ex H H1 h h1) (hs : ∀ b ∈ fs, b ∈ fs') (hx : ∀ b ∈ ex, b ∈ ex') : Un fs' ex' H H1 h h1 :=
  ⟨fun b ob q n hb he => u.keep b ob q n (fun z => hb (hs b z)) fun z => he (hx b z), fun _ _ q n _ he => u.any q n fun z => he (hx _ z), fun b ob q n he => u.free b ob q n fun z => he (hx b z), fun b ob q he => u.there b ob q fun z => he (hx b z), u.tups, u.frzs, u.tbls⟩
end
def trk (h : Heap) (H : Hp) : List Addr := (List.range h.objs.size).filter fun a => (H a).isSome
def hidT (h : Heap) (H : Hp) : Heap := PySem.W.hideAll h (trk h H)
theorem hidT_size (h : Heap) (H : Hp) : (hidT h H).objs.size = h.objs.size := PySem.W.hideAll_size _ _
theorem hidT_get {h : Heap} {H : Hp} {b : Addr} {o : Obj} (e : h.get? b = some o) (n : H b = none) : (hidT h H).get? b = some o :=
  PySem.W.hideAll_get _ e fun hm => by
    have q : (H b).isSome = true := (List.mem_filter.mp hm).2
    rw [n] at q; simp at q
theorem of_hidT {h : Heap} {H : Hp} {b : Addr} {o : Obj} (e : (hidT h H).get? b = some o) : h.get? b = some o ∧ H b = none := by
  have e' : h.get? b = some o := PySem.W.of_hideAll (trk h H) e
  refine ⟨e', ?_⟩
  cases q : H b with
  | none => rfl
  | some x =>
    have hm : b ∈ trk h H := List.mem_filter.mpr ⟨List.mem_range.mpr (Heap.lt_size e'), by simp [q]⟩
    have z : (hidT h H).get? b = none := PySem.W.hideAll_none (trk h H) hm
    rw [z] at e; cases e
def allNews (g h : Heap) (L : Addr) : List (Addr × Obj) := (List.range h.objs.size).filterMap fun a => if a = L ∨ (g.get? a).isSome = true then none else (h.get? a).map fun o => (a, o)
def rest (g h : Heap) (L d : Addr) : List (Addr × Obj) := (allNews g h L).filter fun p => decide (p.1 ≠ d)
end L2
namespace L2
open PySem PySem.Spec PyProof.Rows
structure Mod (K : PySem.W.Frag) (mg : Str → Option Value) (base : Heap) : Prop where
  kin : K.In base
  glob : base.Ns mainGlobals mg
  blt : ∃ mb, base.Ns builtinsNs mb ∧ ∀ x : Str, x ≠ "__name__" → mb x = bootBuiltins x
  nolimit : base.NoLimit
structure Cx where
  prog : Program
  w : World
  K : PySem.W.Frag
  mg : Str → Option Value
  base : Heap
  A : Around
  N : List Str
  s_0 : Shared
  H_0 : Hp
  env : Env
  outer : List Env
  stack : List Env
  ex : List Addr
  fn : Str → Bool
  calm : Bool
  pn : List (Addr × Obj)
  xe : Value → Shared → Prop
def frs (l : List Env) : List Addr := l.filterMap (·.frame)
abbrev Cx.fs (X : Cx) : List Addr := frs X.outer
def Vis (sc : Scope) (x : Str) : Prop := sc.names.lookup x = some .local ∨ sc.names.lookup x = some .cell ∨ sc.names.lookup x = some .free
def Loc (sc : Scope) (x : Str) : Prop := sc.names.lookup x = some .local ∨ sc.names.lookup x = some .cell
def Look (env : Env) (h : Heap) (m : Str → Option Value) (x : Str) (u : Value) : Prop :=
  (env.kindOf x = some .local ∧ m x = some u) ∨ ((env.kindOf x = some .cell ∨ env.kindOf x = some .free) ∧ ∃ c, env.cells.lookup x = some c ∧ h.IsCell c (some u))
structure Cx.Ok (X : Cx) : Prop where
  mod : Mod X.K X.mg X.base
  kind : X.env.scope.kind = .function
  glob : X.env.globals = mainGlobals
  blt : X.env.builtins = builtinsNs
  above : X.s_0.heap.objs.size ≤ X.env.locals
  inj : ∀ x y c, X.env.cells.lookup x = some c → X.env.cells.lookup y = some c → x = y
  has : ∀ x, (X.env.kindOf x = some .cell ∨ X.env.kindOf x = some .free) → ∃ c, X.env.cells.lookup x = some c
  cab : ∀ x c, X.fn x = true → X.env.cells.lookup x = some c → X.s_0.heap.objs.size ≤ c
  hd : X.calm = true → X.A.handled = none
  frames : X.A.frames = some X.stack
  stk : X.stack = X.outer ∨ (X.stack = X.env :: X.outer ∧ X.env.frame = some X.env.locals)
  exf : ∀ b ∈ X.ex, b ≠ X.env.locals ∧ ∀ x c, X.env.cells.lookup x = some c → c ≠ b
  bs : ∀ b o, X.base.get? b = some o → X.s_0.heap.get? b = some o ∧ X.H_0 b = none
  bsz : X.base.objs.size ≤ X.s_0.heap.objs.size
  noex : ∀ b o, X.base.get? b = some o → b ∉ X.ex
  exfs : ∀ b ∈ X.ex, b ∉ X.fs
  funs : X.s_0.heap.FunFrames X.base X.outer
  frf : ∀ b ∈ X.fs, X.H_0 b = none
structure Inv (X : Cx) (pins : List (Addr × Obj)) (σ : List (Option V)) (H : Hp) (s : Shared) : Prop where
  ok : X.Ok
  os : s.os = X.s_0.os
  bare : AllBare s.gens
  base : Un X.fs X.ex X.H_0 H X.s_0.heap s.heap
  loc : ∃ m, s.heap.Ns X.env.locals m ∧ ∀ (i : Nat) (x : Str) (v : V), X.N[i]? = some x → σ[i]? = some (some v) → Vis X.env.scope x → ∃ u, RelV v u ∧ Look X.env s.heap m x u
  cell : ∀ x c, X.env.cells.lookup x = some c → ∃ v, s.heap.IsCell c v
  free : H X.env.locals = none
  freeC : ∀ x c, X.env.cells.lookup x = some c → H c = none
  pin : ∀ p ∈ X.pn ++ pins, s.heap.get? p.1 = some p.2 ∧ H p.1 = none ∧ p.1 ≠ X.env.locals ∧ p.1 ∉ X.fs ∧ ∀ v, p.2.data ≠ .cell v
  hok : HOk X.prog X.w H s.heap
  len : σ.length = X.N.length
section
variable {X : Cx} {pins : List (Addr × Obj)} {σ : List (Option V)} {H H' : Hp} {s : Shared} {h' : Heap}
theorem Cx.Ok.nofr (ok : X.Ok) {b : Addr} {o : Obj} (e : X.base.get? b = some o) : b ∉ X.fs := fun hb => by
  have := (ok.funs.mem hb).1
  rw [e] at this; cases this
theorem Inv.bs (I : Inv X pins σ H s) : ∀ b o, X.base.get? b = some o → s.heap.get? b = some o ∧ H b = none := fun b o e =>
  ⟨I.base.keep b o (I.ok.bs b o e).1 (I.ok.bs b o e).2 (I.ok.nofr e) (I.ok.noex b o e), I.base.free b o (I.ok.bs b o e).1 (I.ok.bs b o e).2 (I.ok.noex b o e)⟩
theorem Inv.bk (I : Inv X pins σ H s) : ∀ b o, X.base.get? b = some o → s.heap.get? b = some o := fun b o e => (I.bs b o e).1
theorem Inv.mod (I : Inv X pins σ H s) : Mod X.K X.mg X.base := I.ok.mod
theorem Inv.kIn (I : Inv X pins σ H s) : X.K.In s.heap := I.ok.mod.kin.keeps I.bk
theorem Inv.nolimit (I : Inv X pins σ H s) : s.heap.NoLimit := I.ok.mod.nolimit.keeps I.bk
theorem Inv.fr (I : Inv X pins σ H s) : ∃ m, Fr X.base X.env.locals s.heap m :=
  let ⟨m, hn, _⟩ := I.loc
  ⟨m, hn, I.bk, Nat.le_trans I.ok.bsz I.ok.above⟩
theorem Inv.lt (I : Inv X pins σ H s) : X.env.locals < s.heap.objs.size := let ⟨_, hn, _⟩ := I.loc; hn.lt
theorem Inv.sz (I : Inv X pins σ H s) : X.s_0.heap.objs.size ≤ s.heap.objs.size := Nat.le_trans I.ok.above (Nat.le_of_lt I.lt)
theorem Inv.nofs (I : Inv X pins σ H s) {a : Addr} (h : s.heap.objs.size ≤ a) : a ∉ X.fs := fun hb => by
  obtain ⟨_, o, ho, _⟩ := I.ok.funs.mem hb
  exact absurd (Nat.lt_of_lt_of_le (Heap.lt_size ho) (Nat.le_trans I.sz h)) (Nat.lt_irrefl _)
theorem Inv.cne (I : Inv X pins σ H s) : ∀ x c, X.env.cells.lookup x = some c → c ≠ X.env.locals := fun x c e z => by
  obtain ⟨v, o, ho, hd⟩ := I.cell x c e
  obtain ⟨m, ⟨o', es, ep, ho', hd', _⟩, _⟩ := I.loc
  rw [z, ho'] at ho; cases ho; rw [hd'] at hd; cases hd
theorem Inv.funs (I : Inv X pins σ H s) : s.heap.FunFrames X.base X.outer := by
  have all : ∀ (l : List Env), (∀ b ∈ frs l, b ∈ X.fs) → X.s_0.heap.FunFrames X.base l → s.heap.FunFrames X.base l := by
    intro l
    induction l with
    | nil => intro _ _; trivial
    | cons env r ih =>
      intro hs hl
      obtain ⟨hk, ⟨L, o, hf, hn, ho, hd⟩, hr⟩ := hl
      have hL : L ∈ X.fs := hs L (by unfold frs; rw [List.filterMap_cons, hf]; exact List.mem_cons_self)
      obtain ⟨sl, e⟩ := I.base.slot L o ho (I.ok.frf L hL) hL fun z => I.ok.exfs L z hL
      exact ⟨hk, ⟨L, _, hf, hn, e, hd⟩, ih (fun b hb => hs b (by unfold frs; rw [List.filterMap_cons, hf]; exact List.mem_cons_of_mem _ hb)) hr⟩
  exact all X.outer (fun _ hb => hb) I.ok.funs
theorem Inv.stack (I : Inv X pins σ H s) : s.heap.FunFrames X.base X.stack := by
  rcases I.ok.stk with e | ⟨e, hf⟩
  · rw [e]; exact I.funs
  · rw [e]
    obtain ⟨m, hn, _⟩ := I.loc
    refine .cons (by rw [I.ok.kind]; decide) hf hn ?_ I.funs
    exact Heap.get?_none_of_le (Nat.le_trans I.ok.bsz I.ok.above)
theorem Inv.stkSub (I : Inv X pins σ H s) : ∀ b ∈ frs X.stack, b ∈ X.env.locals :: X.fs := fun b hb => by
  rcases I.ok.stk with e | ⟨e, hf⟩
  · rw [e] at hb; exact List.mem_cons_of_mem _ hb
  · rw [e] at hb
    unfold frs at hb
    rw [List.filterMap_cons, hf] at hb
    exact hb
theorem Inv.stkFree (I : Inv X pins σ H s) : ∀ b ∈ frs X.stack, H b = none := fun b hb => by
  rcases List.mem_cons.mp (I.stkSub b hb) with e | hb
  · rw [e]; exact I.free
  · obtain ⟨_, o, ho, _⟩ := I.ok.funs.mem hb
    exact I.base.free b o ho (I.ok.frf b hb) fun z => I.ok.exfs b z hb
theorem Inv.step {g' : Array GenState} {t' : Nat} {d' : Drawn} {ch : List Addr} (I : Inv X pins σ H s)
    (hch : ∀ b ∈ ch, (b ∈ X.ex ∨ X.s_0.heap.objs.size ≤ b) ∧ b ≠ X.env.locals ∧ (∀ x c, X.env.cells.lookup x = some c → c ≠ b) ∧ ∀ p ∈ X.pn ++ pins, p.1 ≠ b)
    (keep : ∀ b o, b ≠ X.env.locals → b ∉ X.fs → b ∉ ch → s.heap.get? b = some o → H b = none → h'.get? b = some o)
    (slot : ∀ b o, b ≠ X.env.locals → b ∈ X.fs → b ∉ ch → s.heap.get? b = some o → H b = none → ∃ sl, h'.get? b = some { o with slots := sl }) (free : ∀ b o, b ∉ ch → s.heap.get? b = some o → H b = none → H' b = none)
    (there : ∀ b o, b ∉ ch → s.heap.get? b = some o → ∃ o', h'.get? b = some o')
    (tups : ∀ b xs, H b = some (.tup xs) → H' b = some (.tup xs)) (frzs : ∀ b o u, H b = some (.frz o u) → H' b = some (.frz o u)) (tbls : ∀ b ps, H b = some (.tbl ps) → ∃ more, H' b = some (.tbl (ps ++ more)))
    (ns : ∀ m, s.heap.Ns X.env.locals m → h'.Ns X.env.locals m) (hok : HOk X.prog X.w H' h') (hg : AllBare g') :
    Inv X pins σ H' { s with heap := h', gens := g', drawn := d', toks := t' } := by
  have neL : ∀ b o, X.s_0.heap.get? b = some o → b ≠ X.env.locals := fun b o e => Nat.ne_of_lt (Nat.lt_of_lt_of_le (Heap.lt_size e) I.ok.above)
  have neC : ∀ b o, X.s_0.heap.get? b = some o → b ∉ X.ex → b ∉ ch := fun b o e hx hb => by
    rcases (hch b hb).1 with z | z
    · exact hx z
    · exact absurd (Nat.lt_of_lt_of_le (Heap.lt_size e) z) (Nat.lt_irrefl _)
  have cellK : ∀ x c, X.env.cells.lookup x = some c → ∀ v, s.heap.IsCell c v → h'.IsCell c v := fun x c e v ⟨o, ho, hd⟩ => by
    have nch : c ∉ ch := fun z => (hch c z).2.2.1 x c e rfl
    by_cases hc : c ∈ X.fs
    · obtain ⟨sl, q⟩ := slot c o (I.cne x c e) hc nch ho (I.freeC x c e)
      exact ⟨_, q, hd⟩
    · exact ⟨o, keep c o (I.cne x c e) hc nch ho (I.freeC x c e), hd⟩
  refine ⟨I.ok, I.os, hg, ⟨fun b o e n hb hx => ?_, fun b o e n hb hx => ?_, fun b o e n hx => ?_, fun b o e hx => ?_, fun b xs e => tups b xs (I.base.tups b xs e), fun b o xs e => frzs b o xs (I.base.frzs b o xs e), fun b ps e => ?_⟩, ?_, fun x c e => ?_, ?_, fun x c e => ?_, fun p hp => ?_, hok, I.len⟩
  · exact keep b o (neL b o e) hb (neC b o e hx) (I.base.keep b o e n hb hx) (I.base.free b o e n hx)
  · obtain ⟨sl, e1⟩ := I.base.slot b o e n hb hx
    obtain ⟨sl', e2⟩ := slot b _ (neL b o e) hb (neC b o e hx) e1 (I.base.free b o e n hx)
    exact ⟨sl', e2⟩
  · obtain ⟨o', e1⟩ := I.base.there b o e hx
    exact free b o' (neC b o e hx) e1 (I.base.free b o e n hx)
  · obtain ⟨o', e1⟩ := I.base.there b o e hx
    exact there b o' (neC b o e hx) e1
  · obtain ⟨m1, e1⟩ := I.base.tbls b ps e
    obtain ⟨m2, e2⟩ := tbls b _ e1
    exact ⟨m1 ++ m2, by rw [e2, Array.append_assoc]⟩
  · obtain ⟨m, hn, hl⟩ := I.loc
    refine ⟨m, ns m hn, fun i x v e1 e2 e3 => ?_⟩
    obtain ⟨u, r, l⟩ := hl i x v e1 e2 e3
    refine ⟨u, r, ?_⟩
    rcases l with l | ⟨k, c, e, z⟩
    · exact .inl l
    · exact .inr ⟨k, c, e, cellK x c e _ z⟩
  · obtain ⟨v, z⟩ := I.cell x c e
    exact ⟨v, cellK x c e v z⟩
  · obtain ⟨m, ⟨o, _, _, ho, _⟩, _⟩ := I.loc
    exact free _ o (fun z => (hch _ z).2.1 rfl) ho I.free
  · obtain ⟨v, o, ho, hd⟩ := I.cell x c e
    exact free c o (fun z => (hch c z).2.2.1 x c e rfl) ho (I.freeC x c e)
  · obtain ⟨e, n, ne, nf, d⟩ := I.pin p hp
    have nch : p.1 ∉ ch := fun z => (hch p.1 z).2.2.2 p hp rfl
    exact ⟨keep p.1 p.2 ne nf nch e n, free p.1 p.2 nch e n, ne, nf, d⟩
theorem Inv.un {t' : Nat} (I : Inv X pins σ H s) (u : Un X.fs [] H H' s.heap h') (hok : HOk X.prog X.w H' h') : Inv X pins σ H' { s with heap := h', toks := t' } := by
  obtain ⟨m, ⟨o, es, ep, ho, r⟩, _⟩ := id I.loc
  obtain ⟨sl, hL⟩ := u.any ho I.free (by simp)
  exact I.step (g' := s.gens) (d' := s.drawn) (ch := []) (fun _ z => nomatch z) (fun b o _ hb _ e n => u.keep b o e n hb (by simp)) (fun b o _ hb _ e n => u.slot b o e n hb (by simp)) (fun b o _ e n => u.free b o e n (by simp)) (fun b o _ e => u.there b o e (by simp)) u.tups u.frzs u.tbls (fun m' hm => by
    obtain ⟨o', es', ep', ho', r'⟩ := hm
    rw [ho] at ho'; cases ho'
    exact ⟨_, es', ep', hL, r'⟩) hok I.bare
theorem Inv.call {g' : Array GenState} {t' : Nat} {d' : Drawn} {ch : List Addr} (I : Inv X pins σ H s) (u : Un (frs X.stack) ch H H' s.heap h') (hok : HOk X.prog X.w H' h') (hg : AllBare g')
    (hch : ∀ b ∈ ch, (b ∈ X.ex ∨ X.s_0.heap.objs.size ≤ b) ∧ b ≠ X.env.locals ∧ (∀ x c, X.env.cells.lookup x = some c → c ≠ b) ∧ ∀ p ∈ X.pn ++ pins, p.1 ≠ b) :
    Inv X pins σ H' { s with heap := h', gens := g', drawn := d', toks := t' } := by
  obtain ⟨m, ⟨o, es, ep, ho, r⟩, _⟩ := id I.loc
  obtain ⟨sl, hL⟩ := u.any ho I.free fun z => (hch _ z).2.1 rfl
  exact I.step (ch := ch) hch (fun b o hL hb hc e n => u.keep b o e n (fun z => (List.mem_cons.mp (I.stkSub b z)).elim hL hb) hc) (fun b o _ _ hc e n => u.any e n hc) (fun b o hc e n => u.free b o e n hc) (fun b o hc e => u.there b o e hc) u.tups u.frzs u.tbls (fun m' hm => by
    obtain ⟨o', es', ep', ho', r'⟩ := hm
    rw [ho] at ho'; cases ho'
    exact ⟨_, es', ep', hL, r'⟩) hok hg
theorem Inv.turned {t' : Nat} {it : Addr} (I : Inv X pins σ H s) (k : ∀ b o, b ≠ it → s.heap.get? b = some o → h'.get? b = some o) (hn : H it = none) (hL : it ≠ X.env.locals)
    (h1 : it ∈ X.ex ∨ X.s_0.heap.objs.size ≤ it) (h2 : ∀ x c, X.env.cells.lookup x = some c → c ≠ it) (h3 : ∀ p ∈ X.pn ++ pins, p.1 ≠ it) : Inv X pins σ H { s with heap := h', toks := t' } := by
  have nit : ∀ b u, H b = some u → b ≠ it := fun b u e z => by rw [z, hn] at e; cases e
  refine I.step (g' := s.gens) (d' := s.drawn) (ch := [it]) (fun b hb => ?_) (fun b o _ _ hc e _ => k b o (fun z => hc (by simp [z])) e) (fun b o _ _ hc e _ => ⟨o.slots, k b o (fun z => hc (by simp [z])) e⟩) (fun _ _ _ _ n => n)
    (fun b o hc e => ⟨o, k b o (fun z => hc (by simp [z])) e⟩) (fun _ _ e => e) (fun _ _ _ e => e) (fun b ps e => ⟨#[], by rw [e]; simp⟩) (fun m hm => ?_) (fun b u e => ?_) I.bare
  · have e : b = it := by simpa using hb
    subst e
    exact ⟨h1, hL, h2, h3⟩
  · obtain ⟨o, es, ep, ho, r⟩ := hm
    exact ⟨o, es, ep, k _ o (Ne.symm hL) ho, r⟩
  · refine (I.hok b u e).stay (fun c v hc q => k c v ?_ q) (fun _ q => q) fun _ _ q => q
    rcases hc with z | z
    · rw [z]; exact nit b u e
    · exact nit c _ z
theorem Inv.tok (I : Inv X pins σ H s) (t : Nat) : Inv X pins σ H { s with toks := t } := I.un (h' := s.heap) (t' := t) Un.refl I.hok
theorem Inv.kept {t' : Nat} (I : Inv X pins σ H s) (k : ∀ b u, s.heap.get? b = some u → h'.get? b = some u) : Inv X pins σ H { s with heap := h', toks := t' } := I.un (Un.kept k) (I.hok.kept k)
theorem Inv.laid {a : Addr} {o : HO} {t' : Nat} (I : Inv X pins σ H s) (k : ∀ b u, s.heap.get? b = some u → h'.get? b = some u) (hp : s.heap.objs.size ≤ a) (new : ObjOk X.prog X.w (upd H a o) h' a o) :
    Inv X pins σ (upd H a o) { s with heap := h', toks := t' } := I.un (Un.laid k hp (I.hok.fresh hp)) (I.hok.laid k hp new)
theorem Inv.write {x e : Addr} {o : HO} {t' : Nat} (I : Inv X pins σ H s) (mu : Mut (H x)) (he : e = x ∨ H e = some (.own x)) (k : ∀ b u, b ≠ e → s.heap.get? b = some u → h'.get? b = some u) (heo : ∃ u, h'.get? e = some u)
    (new : ObjOk X.prog X.w (upd H x o) h' x o) : Inv X pins σ (upd H x o) { s with heap := h', toks := t' } := I.un (Un.write mu he k heo) (I.hok.write mu he k heo new)
theorem Inv.weak {σ' : List (Option V)} (I : Inv X pins σ H s) (hl : σ'.length = σ.length) (w : ∀ (i : Nat) v, σ'[i]? = some (some v) → σ[i]? = some (some v)) : Inv X pins σ' H s :=
  ⟨I.ok, I.os, I.bare, I.base, let ⟨m, hn, hl'⟩ := I.loc; ⟨m, hn, fun i x v e1 e2 e3 => hl' i x v e1 (w i v e2) e3⟩, I.cell, I.free, I.freeC, I.pin, I.hok, hl.trans I.len⟩
theorem Inv.pins_of {pins' : List (Addr × Obj)} (I : Inv X pins σ H s) (h : ∀ p ∈ pins', s.heap.get? p.1 = some p.2 ∧ H p.1 = none ∧ p.1 ≠ X.env.locals ∧ p.1 ∉ X.fs ∧ ∀ v, p.2.data ≠ .cell v) : Inv X pins' σ H s :=
  ⟨I.ok, I.os, I.bare, I.base, I.loc, I.cell, I.free, I.freeC, fun p hp => (List.mem_append.mp hp).elim (fun z => I.pin p (List.mem_append_left _ z)) (h p), I.hok, I.len⟩
theorem nodup_ix {N : List Str} (hN : N.Nodup) {i j : Nat} {x : Str} (a : N[i]? = some x) (b : N[j]? = some x) : i = j := by
  obtain ⟨h1, e1⟩ := List.getElem?_eq_some_iff.mp a
  obtain ⟨h2, e2⟩ := List.getElem?_eq_some_iff.mp b
  exact (List.getElem_inj hN).mp (e1.trans e2.symm)
theorem store_ok2 {M : Model} {A : Around} {E : Value → Shared → Prop} {i : Nat} {x : Str} {v : V} {u : Value} {Q : Unit → Shared → Prop} (I : Inv X pins σ H s) (hN : X.N.Nodup) (hi : X.N[i]? = some x) (hx : Loc X.env.scope x) (r : RelV v u)
    (h : ∀ s', Inv X pins (σ.set i (some v)) H s' → (∃ a, Heap.SameBut a s.heap s'.heap ∧ (a = X.env.locals ∨ X.env.cells.lookup x = some a)) → Q () s') (hf : X.fn x = true ∨ X.env.scope.names.lookup x = some .local := by first | exact .inl rfl | exact .inr rfl | assumption) : wpAny M A (storeName X.env x u) Q E s := by
  obtain ⟨m, hn, hl⟩ := id I.loc
  have hcls : (X.env.scope.kind == .class || (X.env.scope.kind == .module && X.env.locals != X.env.globals)) = false := by rw [I.ok.kind]; rfl
  have hiσ : i < σ.length := by rw [I.len]; exact (List.getElem?_eq_some_iff.mp hi).1
  have cne := I.cne
  have tracked : ∀ {a : Addr} {h' : Heap}, (∃ o, s.heap.get? a = some o ∧ H a = none) → Heap.SameBut a s.heap h' → HOk X.prog X.w H h' := fun {a h'} ha hs b ob e => by
    obtain ⟨_, _, hfree⟩ := ha
    refine (I.hok b ob e).stay (fun c w' hc q => (hs.2 c ?_).trans q) (fun _ q => q) fun _ _ q => q
    rintro rfl
    rcases hc with rfl | hc
    · rw [hfree] at e; cases e
    · rw [hfree] at hc; cases hc
  rcases hx with hk | hk
  · refine wpAny_storeName_local hk hn (fun h' hn' hs => ?_) hcls
    obtain ⟨oL, _, _, hoL, _⟩ := id hn
    refine h _ ⟨I.ok, I.os, I.bare, ⟨fun b o e n hb hx => ?_, fun b o e n hb hx => ?_, I.base.free, fun b o e hx => ?_, I.base.tups, I.base.frzs, I.base.tbls⟩, ⟨_, hn', fun j y v' e1 e2 e3 => ?_⟩, fun y c e => ?_, I.free, I.freeC, fun p hp => ?_, tracked ⟨oL, hoL, I.free⟩ hs, by simpa using I.len⟩ ⟨_, hs, .inl rfl⟩
    · exact (hs.2 b (Nat.ne_of_lt (Nat.lt_of_lt_of_le (Heap.lt_size e) I.ok.above))).trans (I.base.keep b o e n hb hx)
    · obtain ⟨sl, e1⟩ := I.base.slot b o e n hb hx
      exact ⟨sl, (hs.2 b (Nat.ne_of_lt (Nat.lt_of_lt_of_le (Heap.lt_size e) I.ok.above))).trans e1⟩
    · obtain ⟨o', e1⟩ := I.base.there b o e hx
      exact ⟨o', (hs.2 b (Nat.ne_of_lt (Nat.lt_of_lt_of_le (Heap.lt_size e) I.ok.above))).trans e1⟩
    · by_cases hj : j = i
      · subst hj
        rw [hi] at e1; cases e1
        rw [List.getElem?_set_self hiσ] at e2
        cases e2
        exact ⟨u, r, .inl ⟨hk, by simp⟩⟩
      · rw [List.getElem?_set_ne (Ne.symm hj)] at e2
        obtain ⟨u', r', q⟩ := hl j y v' e1 e2 e3
        refine ⟨u', r', ?_⟩
        rcases q with ⟨k, e⟩ | ⟨k, c, e, z⟩
        · refine .inl ⟨k, ?_⟩
          have : y ≠ x := fun e => hj (nodup_ix hN e1 (e ▸ hi))
          simp [this, e]
        · exact .inr ⟨k, c, e, z.sameBut hs (cne y c e)⟩
    · obtain ⟨w', z⟩ := I.cell y c e
      exact ⟨w', z.sameBut hs (cne y c e)⟩
    · obtain ⟨e, n, ne, nf, d⟩ := I.pin p hp
      exact ⟨(hs.2 p.1 ne).trans e, n, ne, nf, d⟩
  · have hfn : X.fn x = true := by
      rcases hf with z | z
      · exact z
      · rw [z] at hk; cases hk
    obtain ⟨c, hc⟩ := I.ok.has x (.inl hk)
    obtain ⟨w', z⟩ := I.cell x c hc
    refine wpAny_storeName_cell I.ok.kind hk hc z (fun h' hc' hs => ?_)
    obtain ⟨oc, hoc, hocd⟩ := id z
    refine h { s with heap := h' } ⟨I.ok, I.os, I.bare, ⟨fun b o e n hb hx => ?_, fun b o e n hb hx => ?_, I.base.free, fun b o e hx => ?_, I.base.tups, I.base.frzs, I.base.tbls⟩, ⟨m, hn.sameBut hs (Ne.symm (cne x c hc)), fun j y v' e1 e2 e3 => ?_⟩, fun y c' e => ?_, I.free, I.freeC, fun p hp => ?_, tracked ⟨oc, hoc, I.freeC x c hc⟩ hs, by simpa using I.len⟩ ⟨c, hs, .inr hc⟩
    · exact (hs.2 b (Nat.ne_of_lt (Nat.lt_of_lt_of_le (Heap.lt_size e) (I.ok.cab x c hfn hc)))).trans (I.base.keep b o e n hb hx)
    · obtain ⟨sl, e1⟩ := I.base.slot b o e n hb hx
      exact ⟨sl, (hs.2 b (Nat.ne_of_lt (Nat.lt_of_lt_of_le (Heap.lt_size e) (I.ok.cab x c hfn hc)))).trans e1⟩
    · obtain ⟨o', e1⟩ := I.base.there b o e hx
      exact ⟨o', (hs.2 b (Nat.ne_of_lt (Nat.lt_of_lt_of_le (Heap.lt_size e) (I.ok.cab x c hfn hc)))).trans e1⟩
    · by_cases hj : j = i
      · subst hj
        rw [hi] at e1; cases e1
        rw [List.getElem?_set_self hiσ] at e2
        cases e2
        exact ⟨u, r, .inr ⟨.inl hk, c, hc, hc'⟩⟩
      · rw [List.getElem?_set_ne (Ne.symm hj)] at e2
        obtain ⟨u', r', q⟩ := hl j y v' e1 e2 e3
        refine ⟨u', r', ?_⟩
        rcases q with q | ⟨k, c', e, z'⟩
        · exact .inl q
        · refine .inr ⟨k, c', e, z'.sameBut hs ?_⟩
          rintro rfl
          exact hj (nodup_ix hN e1 (I.ok.inj _ _ _ e hc ▸ hi))
    · by_cases hcc : c' = c
      · subst hcc; exact ⟨_, hc'⟩
      · obtain ⟨w2, z2⟩ := I.cell y c' e
        exact ⟨w2, z2.sameBut hs hcc⟩
    · obtain ⟨e, n, ne, nf, d⟩ := I.pin p hp
      refine ⟨(hs.2 p.1 ?_).trans e, n, ne, nf, d⟩
      intro q
      rw [q, hoc] at e
      have q' : oc = p.2 := Option.some.inj e
      exact d w' (by rw [← q']; exact hocd)
theorem store_ok {M : Model} {A : Around} {E : Value → Shared → Prop} {i : Nat} {x : Str} {v : V} {u : Value} {Q : Unit → Shared → Prop} (I : Inv X pins σ H s) (hN : X.N.Nodup) (hi : X.N[i]? = some x) (hx : Loc X.env.scope x) (r : RelV v u)
    (h : ∀ s', Inv X pins (σ.set i (some v)) H s' → Q () s') (hf : X.fn x = true ∨ X.env.scope.names.lookup x = some .local := by first | exact .inl rfl | exact .inr rfl | assumption) : wpAny M A (storeName X.env x u) Q E s :=
  store_ok2 I hN hi hx r (fun s' I' _ => h s' I') hf
theorem Inv.call' {s' : Shared} {ch : List Addr} (I : Inv X pins σ H s) (ho : s'.os = s.os) (u : Un (frs X.stack) ch H H' s.heap s'.heap) (hok : HOk X.prog X.w H' s'.heap) (hg : AllBare s'.gens)
    (hch : ∀ b ∈ ch, (b ∈ X.ex ∨ X.s_0.heap.objs.size ≤ b) ∧ b ≠ X.env.locals ∧ (∀ x c, X.env.cells.lookup x = some c → c ≠ b) ∧ ∀ p ∈ X.pn ++ pins, p.1 ≠ b) : Inv X pins σ H' s' := by
  obtain ⟨h', g', d', t', o'⟩ := s'
  have e : o' = s.os := ho
  subst e
  exact I.call (g' := g') (t' := t') (d' := d') u hok hg hch
end
abbrev XK := Value → Option Addr → Hp → Prop
abbrev St := List (Option V)
abbrev VK := V → Hp → Prop
abbrev TE := St → Hp → VK → Prop
abbrev TT := St → Hp → (Bool → Hp → Prop) → Prop
abbrev TA := St → Hp → (List V → Hp → Prop) → Prop
structure Ends where
  nx : St → Hp → Prop
  rt : VK
  bk : St → Hp → Prop := fun _ _ => False
  ct : St → Hp → Prop := fun _ _ => False
abbrev TS := Ends → St → Hp → Prop
def EP (X : Cx) (pins : List (Addr × Obj)) (σ : St) (Q : VK) (u : Value) (s' : Shared) : Prop := ∃ v H', Inv X pins σ H' s' ∧ RelV v u ∧ Q v H'
def TP (X : Cx) (pins : List (Addr × Obj)) (σ : St) (Q : Bool → Hp → Prop) (b : Bool) (s' : Shared) : Prop := ∃ H', Inv X pins σ H' s' ∧ Q b H'
def AP (X : Cx) (pins : List (Addr × Obj)) (σ : St) (Q : List V → Hp → Prop) (us : List Value) (s' : Shared) : Prop := ∃ vs H', Inv X pins σ H' s' ∧ Vals vs us ∧ Q vs H'
def SP (X : Cx) (pins : List (Addr × Obj)) (D : Ends) (f : Flow) (s' : Shared) : Prop :=
  match f with
  | .next => ∃ σ' H', Inv X pins σ' H' s' ∧ D.nx σ' H'
  | .brk => ∃ σ' H', Inv X pins σ' H' s' ∧ D.bk σ' H'
  | .cont => ∃ σ' H', Inv X pins σ' H' s' ∧ D.ct σ' H'
  | .ret u => ∃ v σ' H', Inv X pins σ' H' s' ∧ RelV v u ∧ D.rt v H'
def PE (X : Cx) (e : Expr) (t : TE) : Prop :=
  ∀ (pins : List (Addr × Obj)) (s : Shared) (σ : St) (H : Hp) (Q : VK), Inv X pins σ H s → t σ H Q → wpAny (model X.prog X.w) X.A (eval e X.env) (EP X pins σ Q) X.xe s
def PT (X : Cx) (e : Expr) (t : TT) : Prop :=
  ∀ (pins : List (Addr × Obj)) (s : Shared) (σ : St) (H : Hp) (Q : Bool → Hp → Prop), Inv X pins σ H s → t σ H Q → wpAny (model X.prog X.w) X.A (isTrue e X.env (eval e X.env)) (TP X pins σ Q) X.xe s
def PW (X : Cx) (e : Expr) (t : TT) : Prop :=
  ∀ (whole : Sem Value) (pins : List (Addr × Obj)) (s : Shared) (σ : St) (H : Hp) (Q : Bool → Hp → Prop), Inv X pins σ H s → t σ H Q → wpAny (model X.prog X.w) X.A (isTrue e X.env whole) (TP X pins σ Q) X.xe s
theorem PW.pt {X : Cx} {e : Expr} {t : TT} (h : PW X e t) : PT X e t := h _
def PA (X : Cx) (es : List Expr) (t : TA) : Prop :=
  ∀ (pos : Pos) (pins : List (Addr × Obj)) (s : Shared) (σ : St) (H : Hp) (Q : List V → Hp → Prop), Inv X pins σ H s → t σ H Q → wpAny (model X.prog X.w) X.A (spliced (backTo pos (starEach es X.env))) (AP X pins σ Q) X.xe s
def PS (X : Cx) (st : Stmt) (t : TS) : Prop :=
  ∀ (pins : List (Addr × Obj)) (s : Shared) (σ : St) (H : Hp) (D : Ends), Inv X pins σ H s → t D σ H → wpAny (model X.prog X.w) X.A (exec st X.env) (SP X pins D) X.xe s
def PSs (X : Cx) (st : List Stmt) (t : TS) : Prop :=
  ∀ (pins : List (Addr × Obj)) (s : Shared) (σ : St) (H : Hp) (D : Ends), Inv X pins σ H s → t D σ H → wpAny (model X.prog X.w) X.A (execs st X.env) (SP X pins D) X.xe s
theorem thn {α : Type} {t : Sem α} {Q Q' : α → Shared → Prop} {M : Model} {A : Around} {E : Value → Shared → Prop} {s : Shared} (h : wpAny M A t Q E s) (hQ : ∀ a s, Q a s → Q' a s) : wpAny M A t Q' E s := wpAny_mono h hQ fun _ _ x => x
end L2
namespace L2
open PySem PySem.Spec PyProof.Rows
section
variable {X : Cx}
def tVar (i : Nat) : TE := fun σ H Q => ∃ v, σ[i]? = some (some v) ∧ Q v H
def tC (v : V) : TE := fun _ H Q => Q v H
theorem pe_var {i : Nat} {x : Str} {pos : Pos} (hN : X.N[i]? = some x) (hv : Vis X.env.scope x) (hd : (x == ("__debug__" : Str)) = false := by decide) (hcd : (x == ("__classdict__" : Str)) = false := by decide) : PE X (.Name x pos) (tVar i) := by
  intro pins s σ H Q I h
  obtain ⟨v, e, h⟩ := h
  obtain ⟨m, hn, hl⟩ := I.loc
  obtain ⟨u, r, l⟩ := hl i x v hN e hv
  have fin : EP X pins σ Q u s := ⟨v, H, I, r, h⟩
  rcases l with ⟨hk, hm⟩ | ⟨hk, c, hc, hcell⟩
  · exact wpAny_Name (wpAny_loadName_local I.ok.kind hk hn hm fin) hd
  · rcases hk with hk | hk
    · exact wpAny_Name (wpAny_loadName_cell I.ok.kind hk hc hcell fin) hd
    · exact wpAny_Name (wpAny_loadName_free I.ok.kind hk hc hcell fin hcd) hd
theorem pe_int {i j pos} : PE X (.Constant (.int i) j pos) (tC (.int i)) := fun _ _ _ H _ I h => wpAny_Constant_int ⟨.int i, H, I.tok _, ⟨_, rfl⟩, h⟩
theorem pe_bl {b j pos} : PE X (.Constant (.bool b) j pos) (tC (.bl b)) := fun _ _ _ H _ I h => Constant_bool ⟨.bl b, H, I, rfl, h⟩
def Gl (X : Cx) (x : Str) : Prop := X.env.kindOf x = some .globalImplicit
theorem ld_glob {E : Value → Shared → Prop} {pins : List (Addr × Obj)} {s : Shared} {σ : St} {H : Hp} {x : Str} {u : Value} {pos : Pos} {Q : Value → Shared → Prop} (I : Inv X pins σ H s) (hg : Gl X x) (hm : X.mg x = some u) (h : Q u s)
    (hd : (x == ("__debug__" : Str)) = false := by decide) : wpAny (model X.prog X.w) X.A (eval (.Name x pos) X.env) Q E s :=
  Calls.Name_function_global I.ok.kind hg (Calls.loadGlobal_global (by rw [I.ok.glob]; exact I.mod.glob.keeps I.bk) hm h) hd
theorem ld_blt {E : Value → Shared → Prop} {pins : List (Addr × Obj)} {s : Shared} {σ : St} {H : Hp} {x : Str} {u : Value} {pos : Pos} {Q : Value → Shared → Prop} (I : Inv X pins σ H s) (hg : Gl X x) (hm : X.mg x = none) (hv : bootBuiltins x = some u) (h : Q u s)
    (hn : x ≠ "__name__" := by decide) (hd : (x == ("__debug__" : Str)) = false := by decide) : wpAny (model X.prog X.w) X.A (eval (.Name x pos) X.env) Q E s := by
  obtain ⟨mb, h1, h2⟩ := I.mod.blt
  exact Calls.Name_function_global I.ok.kind hg (Calls.loadGlobal_builtin (by rw [I.ok.glob]; exact I.mod.glob.keeps I.bk) hm (by rw [I.ok.blt]; exact h1.keeps I.bk) ((h2 x hn).trans hv) h) hd
theorem pe_bltn {x : Str} {v : V} {u : Value} {pos : Pos} (hg : Gl X x) (hm : X.mg x = none) (hv : bootBuiltins x = some u) (r : RelV v u) (hn : x ≠ "__name__" := by decide) (hd : (x == ("__debug__" : Str)) = false := by decide) : PE X (.Name x pos) (tC v) :=
  fun _ _ _ H _ I h => ld_blt I hg hm hv ⟨v, H, I, r, h⟩ hn hd
variable {a b : Expr} {ta tb : TE} {pos : Pos}
variable {tA tB' : TT} {rest : List Expr}
def tAnd (t u : TT) : TT := fun σ H Q => t σ H fun c H1 => if c = true then u σ H1 Q else Q false H1
def tOr (t u : TT) : TT := fun σ H Q => t σ H fun c H1 => if c = true then Q true H1 else u σ H1 Q
def tNot (t : TT) : TT := fun σ H Q => t σ H fun c H1 => Q (!c) H1
theorem pw_and1 (ha : PT X a tA) : PW X (.BoolOp .And [a] pos) tA := by
  intro wh pins s σ H Q I h
  refine isTrue_and (thn (ha pins s σ H Q I h) fun c s1 e => ?_)
  cases c with
  | true => exact isTrue_and_nil e
  | false => exact e
theorem pw_or1 (ha : PT X a tA) : PW X (.BoolOp .Or [a] pos) tA := by
  intro wh pins s σ H Q I h
  refine isTrue_or (thn (ha pins s σ H Q I h) fun c s1 e => ?_)
  cases c with
  | false => exact isTrue_or_nil e
  | true => exact e
theorem pw_and (ha : PT X a tA) (hb : PW X (.BoolOp .And (b :: rest) pos) tB') : PW X (.BoolOp .And (a :: b :: rest) pos) (tAnd tA tB') := by
  intro wh pins s σ H Q I h
  refine isTrue_and (thn (ha pins s σ H _ I h) fun c s1 ⟨H1, I1, q1⟩ => ?_)
  cases c with
  | true => exact hb wh pins s1 σ H1 Q I1 q1
  | false => exact ⟨H1, I1, q1⟩
theorem pw_or (ha : PT X a tA) (hb : PW X (.BoolOp .Or (b :: rest) pos) tB') : PW X (.BoolOp .Or (a :: b :: rest) pos) (tOr tA tB') := by
  intro wh pins s σ H Q I h
  refine isTrue_or (thn (ha pins s σ H _ I h) fun c s1 ⟨H1, I1, q1⟩ => ?_)
  cases c with
  | true => exact ⟨H1, I1, q1⟩
  | false => exact hb wh pins s1 σ H1 Q I1 q1
theorem pt_not (ha : PT X a tA) : PT X (.UnaryOp .Not a pos) (tNot tA) := by
  intro pins s σ H Q I h
  exact isTrue_not (ha pins s σ H (fun c H1 => Q (!c) H1) I h)
def tAndV (ta tb : TE) : TE := fun σ H Q => ta σ H fun x H1 => ∃ c, x = .bl c ∧ if c = true then tb σ H1 Q else Q (.bl false) H1
theorem pe_one {op} {t : TE} (h : PE X a t) : PE X (.BoolOp op [a] pos) t := fun pins s σ H Q I hw => BoolOp_one (h pins s σ H Q I hw)
theorem pe_and (ha : PE X a ta) (hb : PE X (.BoolOp .And (b :: rest) pos) tb) : PE X (.BoolOp .And (a :: b :: rest) pos) (tAndV ta tb) := by
  intro pins s σ H Q I h
  refine BoolOp_and (thn (ha pins s σ H _ I h) fun v s1 ⟨x, H1, I1, r1, q1⟩ => ?_)
  obtain ⟨c, rfl, q1⟩ := q1
  cases r1
  refine wpAny_truthy_bool ?_
  cases c with
  | true => exact hb pins s1 σ H1 Q I1 q1
  | false => exact ⟨.bl false, H1, I1, rfl, q1⟩
def tIf (t : TT) (ta tb : TE) : TE := fun σ H Q => t σ H fun c H1 => if c = true then ta σ H1 Q else tb σ H1 Q
theorem pe_ifExp {c : Expr} (hc : PT X c tA) (ha : PE X a ta) (hb : PE X b tb) : PE X (.IfExp c a b pos) (tIf tA ta tb) := by
  intro pins s σ H Q I h
  refine wpAny_IfExp (thn (hc pins s σ H _ I h) fun d s1 ⟨H1, I1, q1⟩ => ?_)
  cases d with
  | true => exact ha pins s1 σ H1 Q I1 q1
  | false => exact hb pins s1 σ H1 Q I1 q1
end
end L2
namespace L2
open PySem PySem.Spec PyProof.Rows
def SqL (K : PySem.W.Frag) (H : Hp) (a : Addr) (xs : List V) : Prop :=
  Rd H a (.lst xs) ∨
    ∃ (o : Obj) (its : Array Value) (n : Nat), K.lookup a = some o ∧ o.cls = .type "list" ∧ o.dict = none ∧ o.data = .seq its n ∧ its.size ≤ sizeLine ∧ Vals xs its.toList
def SqT (K : PySem.W.Frag) (H : Hp) (a : Addr) (xs : List V) : Prop :=
  Rd H a (.tup xs) ∨
    ∃ (o : Obj) (its : Array Value) (n : Nat), K.lookup a = some o ∧ o.cls = .type "tuple" ∧ o.data = .seq its n ∧ its.size ≤ sizeLine ∧ Vals xs its.toList
def absV : Value → Option V
  | .none => some .non
  | .bool b => some (.bl b)
  | .int i _ => some (.int i)
  | .str x _ => some (.str x)
  | .bytes b _ => some (.byt b)
  | .float b _ => some (.flt b)
  | .ref a => some (.ref a)
  | .type n => some (.ty n)
  | _ => none
theorem RelV.abs {x : V} {u : Value} (r : RelV x u) : absV u = some x := by
  cases x with
  | non => cases r; rfl
  | bl _ => cases r; rfl
  | int _ => obtain ⟨t, rfl⟩ := r; rfl
  | str _ => obtain ⟨t, rfl⟩ := r; rfl
  | byt _ => obtain ⟨t, rfl⟩ := r; rfl
  | flt _ => obtain ⟨t, rfl⟩ := r; rfl
  | ref _ => cases r; rfl
  | ty _ => cases r; rfl
theorem RelV.inj {x y : V} {u : Value} (r : RelV x u) (q : RelV y u) : x = y := Option.some.inj (r.abs.symm.trans q.abs)
theorem Vals.inj : ∀ {xs ys : List V} {us : List Value}, Vals xs us → Vals ys us → xs = ys
  | _, _, _, .nil, .nil => rfl
  | _, _, _, .cons r t, .cons r' t' => by rw [r.inj r', Vals.inj t t']
section
variable {X : Cx} {pins : List (Addr × Obj)} {σ : St} {H : Hp} {s : Shared} {a : Addr} {xs ys : List V}
theorem SqL.of {K : PySem.W.Frag} (h : H a = some (.lst xs)) : SqL K H a xs := .inl (.inl h)
theorem SqT.of {K : PySem.W.Frag} (h : H a = some (.tup xs)) : SqT K H a xs := .inl (.inl h)
theorem Inv.list (I : Inv X pins σ H s) (h : SqL X.K H a xs) : ∃ its : List Value, Vals xs its ∧ PlainL s.heap a its.toArray ∧ xs.length ≤ sizeLine := by
  rcases h with h | ⟨o, its, n, hk, hc, hd, hs, hz, r⟩
  · obtain ⟨z, its, n, r, e⟩ := h.ok I.hok
    exact ⟨its, r, ⟨_, n, e, rfl, rfl, rfl⟩, z⟩
  · refine ⟨its.toList, r, ⟨o, n, I.kIn a o hk, hc, hd, by simpa using hs⟩, ?_⟩
    have e := r.length
    simp only [Array.length_toList] at e
    omega
theorem Inv.tuple (I : Inv X pins σ H s) (h : SqT X.K H a xs) : ∃ its : List Value, Vals xs its ∧ IsTup s.heap a its.toArray ∧ xs.length ≤ sizeLine := by
  rcases h with h | ⟨o, its, n, hk, hc, hs, hz, r⟩
  · obtain ⟨z, its, r, p⟩ := h.ok I.hok
    exact ⟨its, r, p, z⟩
  · refine ⟨its.toList, r, ⟨o, I.kIn a o hk, hc, n, by simpa using hs⟩, ?_⟩
    have e := r.length
    simp only [Array.length_toList] at e
    omega
theorem Inv.list_inj (I : Inv X pins σ H s) (h : SqL X.K H a xs) (h' : SqL X.K H a ys) : xs = ys := by
  obtain ⟨its, r, ⟨o, n, e, _, _, d⟩, _⟩ := I.list h
  obtain ⟨its', r', ⟨o', n', e', _, _, d'⟩, _⟩ := I.list h'
  rw [e] at e'; cases e'
  rw [d] at d'
  injection d' with d1 _
  have : its = its' := by simpa using congrArg Array.toList d1
  subst this
  exact r.inj r'
end
abbrev Cx.wish (X : Cx) (E : Value → Shared → Prop) : Cx := { X with xe := E }
abbrev Cx.nox (X : Cx) : Cx := X.wish fun _ _ => False
theorem Cx.Ok.wish {X : Cx} (ok : X.Ok) (E : Value → Shared → Prop) : (X.wish E).Ok :=
  ⟨ok.mod, ok.kind, ok.glob, ok.blt, ok.above, ok.inj, ok.has, ok.cab, ok.hd, ok.frames, ok.stk, ok.exf, ok.bs, ok.bsz, ok.noex, ok.exfs, ok.funs, ok.frf⟩
theorem Cx.Ok.unwish {X : Cx} {E : Value → Shared → Prop} (ok : (X.wish E).Ok) : X.Ok :=
  ⟨ok.mod, ok.kind, ok.glob, ok.blt, ok.above, ok.inj, ok.has, ok.cab, ok.hd, ok.frames, ok.stk, ok.exf, ok.bs, ok.bsz, ok.noex, ok.exfs, ok.funs, ok.frf⟩
section
variable {X : Cx} {pins : List (Addr × Obj)} {σ : St} {H : Hp} {s : Shared} {E : Value → Shared → Prop}
theorem Inv.wish (I : Inv X pins σ H s) (E : Value → Shared → Prop) : Inv (X.wish E) pins σ H s := ⟨I.ok.wish E, I.os, I.bare, I.base, I.loc, I.cell, I.free, I.freeC, I.pin, I.hok, I.len⟩
theorem Inv.unwish (I : Inv (X.wish E) pins σ H s) : Inv X pins σ H s := ⟨I.ok.unwish, I.os, I.bare, I.base, I.loc, I.cell, I.free, I.freeC, I.pin, I.hok, I.len⟩
theorem SP.unwish {D : Ends} {f : Flow} {s' : Shared} (h : SP (X.wish E) pins D f s') : SP X pins D f s' := by
  cases f with
  | next => obtain ⟨σ', H', I, q⟩ := h; exact ⟨σ', H', I.unwish, q⟩
  | brk => obtain ⟨σ', H', I, q⟩ := h; exact ⟨σ', H', I.unwish, q⟩
  | cont => obtain ⟨σ', H', I, q⟩ := h; exact ⟨σ', H', I.unwish, q⟩
  | ret u => obtain ⟨v, σ', H', I, r, q⟩ := h; exact ⟨v, σ', H', I.unwish, r, q⟩
theorem PE.nox {e : Expr} {t : TE} (h : PE X.nox e t) : PE X e t := fun pins s σ H Q I hw =>
  wpAny_mono (h pins s σ H Q (I.wish _) hw) (fun _ _ ⟨v, H', I', r, q⟩ => ⟨v, H', I'.unwish, r, q⟩) fun _ _ z => False.elim z
theorem PT.nox {e : Expr} {t : TT} (h : PT X.nox e t) : PT X e t := fun pins s σ H Q I hw =>
  wpAny_mono (h pins s σ H Q (I.wish _) hw) (fun _ _ ⟨H', I', q⟩ => ⟨H', I'.unwish, q⟩) fun _ _ z => False.elim z
theorem PSs.nox {st : List Stmt} {t : TS} (h : PSs X.nox st t) : PSs X st t := fun pins s σ H D I hw =>
  wpAny_mono (h pins s σ H D (I.wish _) hw) (fun _ _ q => q.unwish) fun _ _ z => False.elim z
end
section
variable {X : Cx} {st : Stmt} {rest : List Stmt} {t u : TS} {e : Expr} {te : TE} {pos : Pos}
def tNext : TS := fun D σ H => D.nx σ H
def tSeq (t u : TS) : TS := fun D σ H => t { D with nx := u D } σ H
theorem pss_nil : PSs X [] tNext := fun _ _ σ H _ I h => wpAny_execs_nil ⟨σ, H, I, h⟩
theorem pss_cons (h1 : PS X st t) (h2 : PSs X rest u) : PSs X (st :: rest) (tSeq t u) := by
  intro pins s σ H D I h
  refine wpAny_execs_cons (thn (h1 pins s σ H { D with nx := u D } I h) fun f s1 q => ?_)
  cases f with
  | next =>
    obtain ⟨σ', H', I', q⟩ := q
    exact h2 pins s1 σ' H' D I' q
  | ret v => exact q
  | brk => exact q
  | cont => exact q
theorem Inv.quiet {pins : List (Addr × Obj)} {σ : St} {H : Hp} {s : Shared} (I : Inv X pins σ H s) : interactive X.env = false := by simp [interactive, I.ok.kind]
def tDrop (te : TE) : TS := fun D σ H => te σ H fun _ H1 => D.nx σ H1
theorem ps_expr (he : PE X e te) (hs : swapsWith e none pos.line X.env = pure false := by rfl) : PS X (.Expr e pos) (tDrop te) := by
  intro pins s σ H D I h
  exact wpAny_Expr_any (thn (he pins s σ H _ I h) fun v s1 ⟨x, H1, I1, r1, q1⟩ => ⟨σ, H1, I1, q1⟩) I.quiet hs
def tRet (te : TE) : TS := fun D σ H => te σ H D.rt
theorem ps_ret (he : PE X e te) : PS X (.Return (some e) pos) (tRet te) := by
  intro pins s σ H D I h
  exact wpAny_Return_some (thn (he pins s σ H _ I h) fun v s1 ⟨x, H1, I1, r1, q1⟩ => ⟨x, σ, H1, I1, r1, q1⟩)
def tIfS (c : TT) (t u : TS) : TS := fun D σ H => c σ H fun b H1 => if b = true then t D σ H1 else u D σ H1
theorem ps_if {c : Expr} {a b : List Stmt} {tc : TT} (hc : PT X c tc) (ha : PSs X a t) (hb : PSs X b u) : PS X (.If c a b pos) (tIfS tc t u) := by
  intro pins s σ H D I h
  refine wpAny_If (thn (hc pins s σ H _ I h) fun d s1 ⟨H1, I1, q1⟩ => ?_)
  cases d with
  | true => exact ha pins s1 σ H1 D I1 q1
  | false => exact hb pins s1 σ H1 D I1 q1
end
abbrev TG := V → St → Hp → (St → Hp → Prop) → Prop
abbrev TGs := List V → St → Hp → (St → Hp → Prop) → Prop
def PG (X : Cx) (target : Expr) (t : TG) : Prop :=
  ∀ (pins : List (Addr × Obj)) (s : Shared) (σ : St) (H : Hp) (v : V) (u : Value) (Q : St → Hp → Prop), Inv X pins σ H s → RelV v u → t v σ H Q →
    wpAny (model X.prog X.w) X.A (assign target X.env u) (fun _ s' => ∃ σ' H', Inv X pins σ' H' s' ∧ Q σ' H') X.xe s
def PGs (X : Cx) (ts : List Expr) (t : TGs) : Prop :=
  ∀ (pins : List (Addr × Obj)) (s : Shared) (σ : St) (H : Hp) (vs : List V) (us : List Value) (Q : St → Hp → Prop), Inv X pins σ H s → Vals vs us → t vs σ H Q →
    wpAny (model X.prog X.w) X.A (assignInOrder ((assignEach ts X.env).map (·.2)) us) (fun _ s' => ∃ σ' H', Inv X pins σ' H' s' ∧ Q σ' H') X.xe s
abbrev TSet := V → V → V → Hp → (Hp → Prop) → Prop
def PSet (X : Cx) (t : TSet) : Prop :=
  ∀ (pins : List (Addr × Obj)) (s : Shared) (σ : St) (H : Hp) (o i v : V) (ov iv u : Value) (Q : Hp → Prop), Inv X pins σ H s → RelV o ov → RelV i iv → RelV v u → t o i v H Q →
    wpAny (model X.prog X.w) X.A (setItem ov iv u) (fun _ s' => ∃ H', Inv X pins σ H' s' ∧ Q H') X.xe s
abbrev TIp := V → V → Hp → VK → Prop
def PIp (X : Cx) (op : Operator) (t : TIp) : Prop :=
  ∀ (pins : List (Addr × Obj)) (s : Shared) (σ : St) (H : Hp) (x y : V) (v u : Value) (Q : VK), Inv X pins σ H s → RelV x v → RelV y u → t x y H Q →
    wpAny (model X.prog X.w) X.A (inplaceOp op v u) (EP X pins σ Q) X.xe s
section
variable {X : Cx} {pos : Pos}
def gName (i : Nat) : TG := fun v σ H Q => Q (σ.set i (some v)) H
theorem pg_name {i : Nat} {x : Str} (hN : X.N.Nodup) (hi : X.N[i]? = some x) (hx : Loc X.env.scope x) (hf : X.fn x = true ∨ X.env.scope.names.lookup x = some .local := by first | exact .inl rfl | exact .inr rfl | assumption) : PG X (.Name x pos) (gName i) := by
  intro pins s σ H v u Q I r h
  exact wpAny_assign_Name (store_ok I hN hi hx r (fun s' I' => ⟨_, H, I', h⟩) hf)
def gNil : TGs := fun vs σ H Q => vs = [] ∧ Q σ H
def gCons (t : TG) (u : TGs) : TGs := fun vs σ H Q => ∃ v r, vs = v :: r ∧ t v σ H fun σ' H' => u r σ' H' Q
theorem pgs_nil : PGs X [] gNil := by
  intro pins s σ H vs us Q I r h
  obtain ⟨e, h⟩ := h
  subst e
  cases r
  exact assignInOrder_nil ⟨σ, H, I, h⟩
theorem pgs_cons {e : Expr} {es : List Expr} {t : TG} {u : TGs} (h1 : PG X e t) (h2 : PGs X es u)
    (hs : (assignEach (e :: es) X.env).map (·.2) = assign e X.env :: (assignEach es X.env).map (·.2) := by rfl) : PGs X (e :: es) (gCons t u) := by
  intro pins s σ H vs us Q I r h
  obtain ⟨v, vr, e1, h⟩ := h
  subst e1
  cases r with
  | cons r rr =>
    rw [hs]
    refine assignInOrder_cons (thn (h1 pins s σ H _ _ _ I r h) fun _ s1 ⟨σ1, H1, I1, q1⟩ => ?_)
    exact h2 pins s1 σ1 H1 _ _ Q I1 rr q1
def gTup (K : PySem.W.Frag) (n : Nat) (t : TGs) : TG := fun v σ H Q => ∃ a xs, v = .ref a ∧ SqT K H a xs ∧ xs.length = n ∧ t xs σ H Q
theorem pg_tup {es : List Expr} {k : Nat} {t : TGs} {n : Nat} (hc : X.calm = true) (h : PGs X es t)
    (hn : (assignEach es X.env).length = n := by rfl) (hst : (assignEach es X.env).findIdx? (·.1) = none := by rfl) : PG X (.Tuple es k pos) (gTup X.K n t) := by
  intro pins s σ H v u Q I r hw
  obtain ⟨a, xs, e1, hq, hl, hw⟩ := hw
  subst e1
  cases r
  obtain ⟨its, rv, ht, hz⟩ := I.tuple hq
  refine assign_Tuple_tuple (I.ok.hd hc) ht (by simp [hn, ← hl, rv.length]) hst fun h' hx => ?_
  have I1 : Inv X pins σ H { s with heap := h' } := I.kept (t' := s.toks) fun b o e => hx b o (Nat.ne_of_lt (Heap.lt_size e)) e
  exact h pins _ σ H xs _ Q I1 (by simpa using rv) hw
def gSub (to ti : TE) (t : TSet) : TG := fun v σ H Q => to σ H fun o H1 => ti σ H1 fun i H2 => t o i v H2 fun H3 => Q σ H3
theorem pg_sub {o i : Expr} {to ti : TE} {t : TSet} (ho : PE X o to) (hi : PE X i ti) (hs : PSet X t)
    (ha : ∀ v, assign (.Subscript o i pos) X.env v = (do
      let ov ← holding [v] (eval o X.env)
      let iv ← holding [v, ov] (eval i X.env)
      standAt pos
      holding [v, ov, iv] (setItem ov iv v)
      release [v, ov, iv] []) := by intro _; rfl) : PG X (.Subscript o i pos) (gSub to ti t) := by
  intro pins s σ H v u Q I r h
  rw [ha]
  refine wpAny_bind (wpAny_holding (thn (ho pins s σ H _ I h) fun ov s1 ⟨x, H1, I1, r1, q1⟩ => ?_))
  refine wpAny_bind (wpAny_holding (thn (hi pins s1 σ H1 _ I1 q1) fun iv s2 ⟨y, H2, I2, r2, q2⟩ => ?_))
  refine wpAny_bind (wpAny_standAt (wpAny_bind (wpAny_holding (thn (hs pins s2 σ H2 x y v ov iv u _ I2 r1 r2 r q2) fun _ s3 ⟨H3, I3, q3⟩ => ?_))))
  exact wpAny_release ⟨σ, H3, I3, q3⟩
def tAsg (te : TE) (g : TG) : TS := fun D σ H => te σ H fun x H1 => g x σ H1 D.nx
theorem ps_asg {tg e : Expr} {te : TE} {g : TG} (he : PE X e te) (hg : PG X tg g) (hs : swapsWithSole [tg] e pos.line X.env = pure false := by rfl) (hw : swappedStores [tg] e X.env = pure none := by rfl)
    (h1 : (assignEach [tg] X.env).map (·.2) = [assign tg X.env] := by rfl) : PS X (.Assign [tg] e pos) (tAsg te g) := by
  intro pins s σ H D I h
  refine wpAny_Assign_stores (thn (he pins s σ H _ I h) fun v s1 ⟨x, H1, I1, r1, q1⟩ => ?_) hs hw
  rw [h1]
  exact thn (hg pins s1 σ H1 x v _ I1 r1 q1) fun _ s2 q => q
theorem ps_set {i : Nat} {x : Str} {e : Expr} {te : TE} {pos' : Pos} (hN : X.N.Nodup) (hi : X.N[i]? = some x) (hx : Loc X.env.scope x) (he : PE X e te) (hs : swapsWith e (some (.Name x pos')) pos.line X.env = pure false := by rfl) (hf : X.fn x = true ∨ X.env.scope.names.lookup x = some .local := by first | exact .inl rfl | exact .inr rfl | assumption) :
    PS X (.Assign [.Name x pos'] e pos) (tAsg te (gName i)) := by
  intro pins s σ H D I h
  refine wpAny_Assign_Name (thn (he pins s σ H _ I h) fun v s1 ⟨y, H1, I1, r1, q1⟩ => ?_) hs
  exact store_ok I1 hN hi hx r1 (fun s2 I2 => ⟨_, H1, I2, q1⟩) hf
def tAugS (to ti te : TE) (tget : V → V → Hp → VK → Prop) (tip : TIp) (tset : TSet) : TS := fun D σ H => to σ H fun o H1 => ti σ H1 fun i H2 => tget o i H2 fun x H3 => te σ H3 fun y H4 => tip x y H4 fun z H5 => tset o i z H5 fun H6 => D.nx σ H6
def PGet (X : Cx) (t : V → V → Hp → VK → Prop) : Prop :=
  ∀ (pins : List (Addr × Obj)) (s : Shared) (σ : St) (H : Hp) (o i : V) (ov iv : Value) (Q : VK), Inv X pins σ H s → RelV o ov → RelV i iv → t o i H Q →
    wpAny (model X.prog X.w) X.A (getItem ov iv) (EP X pins σ Q) X.xe s
theorem ps_augS {o i e : Expr} {to ti te : TE} {tget : V → V → Hp → VK → Prop} {tip : TIp} {tset : TSet} {op : Operator} {tpos : Pos} (ho : PE X o to) (hi : PE X i ti) (hg : PGet X tget) (he : PE X e te) (hp : PIp X op tip) (hs : PSet X tset)
    (ha : ∀ ov iv new, augStore i ov iv new = (do holding [new, ov, iv] (setItem ov iv new); release [new, ov, iv] []; pure .next) := by intros; rfl) : PS X (.AugAssign (.Subscript o i tpos) op e pos) (tAugS to ti te tget tip tset) := by
  intro pins s σ H D I h
  refine wpAny_AugAssign_SubscriptAny (thn (ho pins s σ H _ I h) fun ov s1 ⟨x1, H1, I1, r1, q1⟩ => ?_) ha
  refine thn (hi pins s1 σ H1 _ I1 q1) fun iv s2 ⟨x2, H2, I2, r2, q2⟩ => ?_
  refine thn (hg pins s2 σ H2 x1 x2 ov iv _ I2 r1 r2 q2) fun old s3 ⟨x3, H3, I3, r3, q3⟩ => ?_
  refine thn (he pins s3 σ H3 _ I3 q3) fun v s4 ⟨x4, H4, I4, r4, q4⟩ => ?_
  refine thn (hp pins s4 σ H4 x3 x4 old v _ I4 r3 r4 q4) fun new s5 ⟨x5, H5, I5, r5, q5⟩ => ?_
  exact thn (hs pins s5 σ H5 x1 x2 x5 ov iv new _ I5 r1 r2 r5 q5) fun _ s6 ⟨H6, I6, q6⟩ => ⟨σ, H6, I6, q6⟩
def ipI (f : Int → Int → Int) : TIp := fun x y H Q => ∃ i j, x = .int i ∧ y = .int j ∧ Q (.int (f i j)) H
theorem ip_add : PIp X .Add (ipI fun i j => i + j) := by
  intro pins s σ H x y v u Q I r1 r2 h
  obtain ⟨i, j, e1, e2, q⟩ := h
  subst e1; subst e2
  obtain ⟨t, rfl⟩ := r1
  obtain ⟨t', rfl⟩ := r2
  exact iadd_int ⟨.int _, H, I.tok _, ⟨_, rfl⟩, q⟩
end
section
variable {X : Cx} {pos : Pos}
end
structure It where
  go : Nat → Hp → Prop
  yld : Nat → Hp → V → Hp → Prop
  stop : Nat → Hp → Prop
def FpOk (X : Cx) (pins : List (Addr × Obj)) (H : Hp) (b : Addr) : Prop :=
  H b = none ∧ b ≠ X.env.locals ∧ b ∉ X.fs ∧ (b ∈ X.ex ∨ X.s_0.heap.objs.size ≤ b) ∧ (∀ x c, X.env.cells.lookup x = some c → c ≠ b) ∧ ∀ p ∈ X.pn ++ pins, p.1 ≠ b
theorem Inv.fpOk {X : Cx} {pins : List (Addr × Obj)} {σ : St} {H H' : Hp} {s : Shared} {b : Addr} (I : Inv X pins σ H s) (hb : s.heap.objs.size ≤ b) (hn : H' b = none) : FpOk X pins H' b := by
  refine ⟨hn, Nat.ne_of_gt (Nat.lt_of_lt_of_le I.lt hb), I.nofs hb, .inr (Nat.le_trans I.sz hb), fun x c e z => ?_, fun p hp z => ?_⟩
  · obtain ⟨v, q⟩ := I.cell x c e
    exact absurd (Nat.lt_of_lt_of_le q.lt (by rw [z]; exact hb)) (Nat.lt_irrefl _)
  · exact absurd (Nat.lt_of_lt_of_le (Heap.lt_size (I.pin p hp).1) (by rw [z]; exact hb)) (Nat.lt_irrefl _)
structure Turn (P : Program) (w : World) (K : PySem.W.Frag) (tg : Expr) (J : It) (fp : List Addr) (it : Addr) (tn : Nat → Heap → Prop) : Prop where
  mem : it ∈ fp
  obj : ∀ i h, tn i h → ∀ b ∈ fp, ∃ o, h.get? b = some o ∧ ∀ v, o.data ≠ .cell v
  keep : ∀ i h h', tn i h → (∀ b ∈ fp, ∀ o, h.get? b = some o → h'.get? b = some o) → tn i h'
  item : ∀ (X : Cx), X.prog = P → X.w = w → X.K = K → X.calm = true → ∀ (i : Nat) (pins : List (Addr × Obj)) (s : Shared) (σ : St) (H : Hp) (E : Value → Shared → Prop), Inv X pins σ H s → (∀ b ∈ fp, FpOk X pins H b) → tn i s.heap → J.go i H →
    wpAny (model P w) X.A (pyNext (.ref it)) (fun r s1 => ∃ u, r = some u ∧
      wpAny (model P w) X.A (letOwnedTupleGo tg (.ref it) u) (fun _ s2 => ∃ x H', Inv X pins σ H' s2 ∧ RelV x u ∧ J.yld i H x H' ∧ tn (i + 1) s2.heap ∧ ∀ b ∈ fp, H' b = none) E s1) E s
  done : ∀ (X : Cx), X.prog = P → X.w = w → X.K = K → X.calm = true → ∀ (i : Nat) (pins : List (Addr × Obj)) (s : Shared) (σ : St) (H : Hp) (E : Value → Shared → Prop), Inv X pins σ H s → (∀ b ∈ fp, FpOk X pins H b) → tn i s.heap → J.stop i H →
    wpAny (model P w) X.A (pyNext (.ref it)) (fun r s1 => r = none ∧ Inv X pins σ H s1) E s
  self : ∀ (A : Around) (i : Nat) (s : Shared) (Q : Value → Shared → Prop) (E : Value → Shared → Prop), tn i s.heap → Q (.ref it) s → wpAny (model P w) A (pyIter (.ref it)) Q E s
abbrev TI := St → Hp → (It → Hp → Prop) → Prop
def PIE (X : Cx) (pins : List (Addr × Obj)) (σ : St) (tg : Expr) (R : It → Hp → Prop) (itv : Value) (s2 : Shared) : Prop :=
  ∃ (it : Addr) (fp : List Addr) (tn : Nat → Heap → Prop) (J : It) (H' : Hp), itv = .ref it ∧ Inv X pins σ H' s2 ∧ Turn X.prog X.w X.K tg J fp it tn ∧ tn 0 s2.heap ∧ (∀ b ∈ fp, FpOk X pins H' b) ∧ R J H'
def PI (X : Cx) (tg iter : Expr) (wi : TI) : Prop :=
  ∀ (pins : List (Addr × Obj)) (s : Shared) (σ : St) (H : Hp) (R : It → Hp → Prop), Inv X pins σ H s → wi σ H R →
    wpAny (model X.prog X.w) X.A (eval iter X.env) (fun v s1 => wpAny (model X.prog X.w) X.A (pyIter v) (PIE X pins σ tg R) X.xe s1) X.xe s
theorem go_of {M : Model} {A : Around} {E : Value → Shared → Prop} {s : Shared} {tg : Expr} {it : Addr} {u : Value} {o : Obj} {n : String} {vs : Array Value} {Q : Unit → Shared → Prop} (ho : s.heap.get? it = some o) (hc : o.cls = .type n) (hd : o.data = .fields vs)
    (hn : ["enumerate", "zip", "dict_itemiterator", "dict_reverseitemiterator", "odict_iterator", "itertools.zip_longest", "itertools.pairwise"].contains n = false) (hQ : Q () s) : wpAny M A (letOwnedTupleGo tg (.ref it) u) Q E s := by
  unfold letOwnedTupleGo
  cases tg <;> first
    | exact wpAny_pure hQ
    | (cases u <;> first
        | exact wpAny_pure hQ
        | (refine wpAny_bind (wpAny_load ho ?_)
           rw [hc, hd]
           show wpAny M A (if (["enumerate", "zip", "dict_itemiterator", "dict_reverseitemiterator", "odict_iterator", "itertools.zip_longest", "itertools.pairwise"].contains n && vs[0]? == some (rawInt _)) = true then _ else _) Q E s
           rw [if_neg (by intro h; rw [hn, Bool.false_and] at h; cases h)]
           exact wpAny_pure hQ))
def Itl (K : PySem.W.Frag) (a : Addr) : It :=
  ⟨fun i H => ∃ xs x, SqL K H a xs ∧ xs[i]? = some x, fun i H x H' => H' = H ∧ ∀ xs, SqL K H a xs → xs[i]? = some x, fun i H => ∃ xs, SqL K H a xs ∧ xs.length ≤ i⟩
def Itr (lo : Int) (n : Nat) : It := ⟨fun i _ => i < n, fun i H x H' => H' = H ∧ x = .int (lo + i), fun i _ => n ≤ i⟩
theorem turn_list {P : Program} {w : World} {K : PySem.W.Frag} {tg : Expr} (a it : Addr) : Turn P w K tg (Itl K a) [it] it (fun i h => h.IsListIter it a i) where
  mem := by simp
  obj := fun i h st b hb => by
    have e : b = it := by simpa using hb
    subst e
    obtain ⟨o, e, c, d⟩ := st
    exact ⟨o, e, fun v z => by rw [d] at z; cases z⟩
  keep := fun i h h' st k => st.at fun o e => k it (by simp) o e
  item := by
    intro X hP hw hK hc i pins s σ H E I hf st hg
    subst hP hw hK
    obtain ⟨xs, x, hq, hx⟩ := hg
    obtain ⟨its, rv, p, hz⟩ := I.list hq
    obtain ⟨u, hu, ru⟩ := rv.get hx
    obtain ⟨f0, f1, f2, f3, f4, f5⟩ := hf it (by simp)
    refine wpAny_pyNext_list_item st p.isList (x := u) (by simpa using hu) fun h' st' sb => ?_
    have I1 : Inv X pins σ H { s with heap := h' } := I.turned (t' := s.toks) (fun b o hb e => (sb.2 b hb).trans e) f0 f1 f3 f4 f5
    obtain ⟨o, e, c, d⟩ := id st'
    exact ⟨u, rfl, go_of (s := { s with heap := h' }) e c d (by decide) ⟨x, H, I1, ru, ⟨rfl, fun ys hy => by rw [I.list_inj hy hq]; exact hx⟩, st', fun b hb => (hf b hb).1⟩⟩
  done := by
    intro X hP hw hK hc i pins s σ H E I hf st hg
    subst hP hw hK
    obtain ⟨xs, hq, hx⟩ := hg
    obtain ⟨its, rv, p, hz⟩ := I.list hq
    obtain ⟨f0, f1, f2, f3, f4, f5⟩ := hf it (by simp)
    have hl := rv.length
    exact wpAny_pyNext_list_end (I.ok.hd hc) st p.isList (by simp; omega) fun h' eb => ⟨rfl, I.turned (t' := s.toks) (fun b o hb e => eb b o hb e) f0 f1 f3 f4 f5⟩
  self := fun _ _ _ _ _ st h => wpAny_pyIter_listiter st h
theorem turn_range {P : Program} {w : World} {K : PySem.W.Frag} {tg : Expr} (it : Addr) (lo : Int) (n : Nat) : Turn P w K tg (Itr lo n) [it] it (fun i h => IsRangeIter h it (lo + (i : Nat) * 1) ((n : Int) - (i : Nat)) 1) where
  mem := by simp
  obj := fun i h st b hb => by
    have e : b = it := by simpa using hb
    subst e
    exact ⟨_, st, fun v z => by
      have z' : Data.fields _ = Data.cell v := z
      cases z'⟩
  keep := fun i h h' st k => k it (by simp) _ st
  item := by
    intro X hP hw hK hc i pins s σ H E I hf st hg
    subst hP hw hK
    obtain ⟨f0, f1, f2, f3, f4, f5⟩ := hf it (by simp)
    have W := Walks.range (prog := X.prog) (w := X.w) (I.ok.hd hc) it lo 1 n
    refine W.item i s _ _ hg st fun v h' tk hv st' kk => ?_
    obtain ⟨t, rfl⟩ := hv
    have I1 : Inv X pins σ H { s with heap := h', toks := tk } := I.turned (fun b o hb e => kk b o (by simpa using hb) e) f0 f1 f3 f4 f5
    refine ⟨_, rfl, go_of (s := { s with heap := h', toks := tk }) (n := "range_iterator") st' rfl rfl (by decide) ⟨.int (lo + i), H, I1, ⟨t, ?_⟩, ⟨rfl, rfl⟩, st', fun b hb => (hf b hb).1⟩⟩
    rw [Int.mul_one]
  done := by
    intro X hP hw hK hc i pins s σ H E I hf st hg
    subst hP hw hK
    obtain ⟨f0, f1, f2, f3, f4, f5⟩ := hf it (by simp)
    exact wpAny_pyNext_range_end (I.ok.hd hc) st (by have : n ≤ i := hg; omega) fun h' eb => ⟨rfl, I.turned (t' := s.toks) (fun b o hb e => eb b o hb e) f0 f1 f3 f4 f5⟩
  self := fun _ _ _ _ _ st h => wpAny_pyIter_rangeiter st h
end L2
namespace L2
open PySem PySem.Spec PyProof.Rows
section
variable {X : Cx} {tg : Expr}
def iList (K : PySem.W.Frag) (tl : TE) : TI := fun σ H R => tl σ H fun x H1 => ∃ a, x = .ref a ∧ (∃ xs, SqL K H1 a xs) ∧ R (Itl K a) H1
theorem pi_list {l : Expr} {tl : TE} (hl : PE X l tl) : PI X tg l (iList X.K tl) := by
  intro pins s σ H R I h
  refine thn (hl pins s σ H _ I h) fun v s1 ⟨x, H1, I1, r1, q1⟩ => ?_
  obtain ⟨a, e, ⟨xs, hq⟩, q⟩ := q1
  subst e
  cases r1
  obtain ⟨its, rv, p, hz⟩ := I1.list hq
  refine wpAny_pyIter_list p.isList ?_
  refine ⟨s1.heap.objs.size, [s1.heap.objs.size], _, _, H1, rfl, I1.kept (t' := s1.toks) fun b o e => Heap.get?_push_of_some _ e, turn_list a _, ⟨_, Heap.get?_push_size _ rfl, rfl, rfl⟩, fun b hb => ?_, q⟩
  have e : b = s1.heap.objs.size := by simpa using hb
  subst e
  exact I1.fpOk (Nat.le_refl _) (I1.hok.fresh (Nat.le_refl _))
theorem range_it {pins : List (Addr × Obj)} {σ : St} {H : Hp} {s : Shared} {R : It → Hp → Prop} {E : Value → Shared → Prop} {lo hi : Int} {t u v : Tok} {tk : Nat} (I : Inv X pins σ H s) (h1 : -(2 ^ 62) ≤ lo) (h2 : lo < 2 ^ 62) (h3 : -(2 ^ 62) ≤ hi) (h4 : hi < 2 ^ 62)
    (q : R (Itr lo (hi - lo).toNat) H) : wpAny (model X.prog X.w) X.A (pyIter (.ref s.heap.objs.size)) (PIE X pins σ tg R) E { s with heap := s.heap.push { cls := .type "range", data := .fields #[.int lo t, .int hi u, .int 1 v] }, toks := tk } := by
  refine wpAny_pyIter_range (IsRange.new ..) (small_one h1 h2 h3 h4) ?_
  have I1 : Inv X pins σ H { s with heap := s.heap.push { cls := .type "range", data := .fields #[.int lo t, .int hi u, .int 1 v] }, toks := tk } := I.kept fun b o e => Heap.get?_push_of_some _ e
  refine ⟨(s.heap.push { cls := .type "range", data := .fields #[.int lo t, .int hi u, .int 1 v] }).objs.size, [(s.heap.push { cls := .type "range", data := .fields #[.int lo t, .int hi u, .int 1 v] }).objs.size], _, _, H, rfl,
    I1.kept (t' := tk) fun b o e => Heap.get?_push_of_some _ e, turn_range _ lo (hi - lo).toNat, ?_, fun b hb => ?_, q⟩
  · have e1 : lo + ((0 : Nat) : Int) * 1 = lo := by simp
    have e2 : (((hi - lo).toNat : Nat) : Int) - ((0 : Nat) : Int) = Builtin.Range.rangeSize lo hi 1 := by rw [rangeSize_one]; split <;> omega
    show IsRangeIter _ _ (lo + ((0 : Nat) : Int) * 1) ((((hi - lo).toNat : Nat) : Int) - ((0 : Nat) : Int)) 1
    rw [e1, e2]
    exact Heap.get?_push_size _ rfl
  · have e : b = (s.heap.push { cls := .type "range", data := .fields #[.int lo t, .int hi u, .int 1 v] }).objs.size := by simpa using hb
    subst e
    exact I1.fpOk (Nat.le_refl _) (I1.hok.fresh (Nat.le_refl _))
def iRng1 (ta : TA) : TI := fun σ H R => ta σ H fun vs H1 => ∃ j : Int, vs = [.int j] ∧ -(2 ^ 62) ≤ j ∧ j < 2 ^ 62 ∧ R (Itr 0 j.toNat) H1
def iRng2 (ta : TA) : TI := fun σ H R => ta σ H fun vs H1 => ∃ i j : Int, vs = [.int i, .int j] ∧ (-(2 ^ 62) ≤ i ∧ i < 2 ^ 62 ∧ -(2 ^ 62) ≤ j ∧ j < 2 ^ 62) ∧ R (Itr i (j - i).toNat) H1
theorem pi_range1 {a : Expr} {ta : TA} {p pos : Pos} (hg : Gl X "range") (hm : X.mg "range" = none) (ha : PA X [a] ta) (hs : starEach [a] X.env = [(false, eval a X.env)] := by rfl) : PI X tg (.Call (.Name "range" p) [a] [] pos) (iRng1 ta) := by
  intro pins s σ H R I h
  refine Call_ (ld_blt I hg hm boot_range (PyProof.Rows.callWith_type1 (thn (ha pos pins s σ H _ I h) fun us s1 ⟨vs, H1, I1, r1, q1⟩ => ?_) hs rfl))
  obtain ⟨j, e, q1, q2, q⟩ := q1
  subst e
  cases r1 with
  | cons r rr =>
    cases rr
    obtain ⟨t, rfl⟩ := r
    exact call_range_1 (range_it I1 (by omega) (by omega) q1 q2 (by simpa using q))
theorem pi_range2 {a b : Expr} {ta : TA} {p pos : Pos} (hg : Gl X "range") (hm : X.mg "range" = none) (ha : PA X [a, b] ta) (hs : starEach [a, b] X.env = [(false, eval a X.env), (false, eval b X.env)] := by rfl) (hs2 : starEach [b] X.env = [(false, eval b X.env)] := by rfl) :
    PI X tg (.Call (.Name "range" p) [a, b] [] pos) (iRng2 ta) := by
  intro pins s σ H R I h
  refine Call_ (ld_blt I hg hm boot_range (PyProof.Rows.callWith_type1 (thn (ha pos pins s σ H _ I h) fun us s1 ⟨vs, H1, I1, r1, q1⟩ => ?_) (by rw [hs, hs2]) (by rw [hs2]; rfl)))
  obtain ⟨i, j, e, ⟨q1, q2, q3, q4⟩, q⟩ := q1
  subst e
  cases r1 with
  | cons r rr =>
    cases rr with
    | cons r' rr =>
      cases rr
      obtain ⟨t, rfl⟩ := r
      obtain ⟨t', rfl⟩ := r'
      exact call_range_2 (range_it I1 q1 q2 q3 q4 q)
def tFor (wi : TI) (g : TG) (tb : TS) : TS := fun D σ H => wi σ H fun J H1 => ∃ W : Nat → Nat → St → Hp → Prop, (∃ m, W 0 m σ H1) ∧ ∀ i m σ H, W i m σ H →
  (J.stop i H ∧ D.nx σ H) ∨ (J.go i H ∧ ∃ N : St → Hp → Prop, (∀ σ' H', N σ' H' → ∃ m', m' < m ∧ W (i + 1) m' σ' H') ∧ ∀ x H', J.yld i H x H' → g x σ H' fun σ2 H2 => tb { D with nx := N, ct := N, bk := D.nx } σ2 H2)
def pinsAt (fp : List Addr) (h : Heap) : List (Addr × Obj) := fp.filterMap fun b => (h.get? b).map fun o => (b, o)
theorem mem_pinsAt {fp : List Addr} {h : Heap} {b : Addr} {o : Obj} (hb : b ∈ fp) (e : h.get? b = some o) : (b, o) ∈ pinsAt fp h := List.mem_filterMap.mpr ⟨b, hb, by rw [e]; rfl⟩
theorem of_pinsAt {fp : List Addr} {h : Heap} {p : Addr × Obj} (hp : p ∈ pinsAt fp h) : p.1 ∈ fp ∧ h.get? p.1 = some p.2 := by
  obtain ⟨b, hb, e⟩ := List.mem_filterMap.mp hp
  cases q : h.get? b with
  | none => rw [q] at e; cases e
  | some o =>
    rw [q] at e
    have e' : (b, o) = p := Option.some.inj e
    subst e'
    exact ⟨hb, q⟩
theorem Inv.pinned {pins : List (Addr × Obj)} {σ : St} {H : Hp} {s : Shared} {fp : List Addr} (I : Inv X pins σ H s) (hf : ∀ b ∈ fp, FpOk X pins H b) (ho : ∀ b ∈ fp, ∃ o, s.heap.get? b = some o ∧ ∀ v, o.data ≠ .cell v) : Inv X (pins ++ pinsAt fp s.heap) σ H s :=
  I.pins_of fun p hp => (List.mem_append.mp hp).elim (fun z => I.pin p (List.mem_append_right _ z)) fun z => by
    obtain ⟨hb, e⟩ := of_pinsAt z
    obtain ⟨f0, f1, f2, _⟩ := hf p.1 hb
    obtain ⟨o, e', d⟩ := ho p.1 hb
    rw [e] at e'; cases e'
    exact ⟨e, f0, f1, f2, d⟩
theorem Inv.unpinned {pins pl : List (Addr × Obj)} {σ : St} {H : Hp} {s : Shared} (I : Inv X (pins ++ pl) σ H s) : Inv X pins σ H s := I.pins_of fun p hp => I.pin p (List.mem_append_right _ (List.mem_append_left _ hp))
theorem ps_for {iter : Expr} {body : List Stmt} {wi : TI} {g : TG} {tb : TS} {pos : Pos} (hp : PassesOwn (model X.prog X.w) X.A X.env X.xe) (hc : X.calm = true) (hi : PI X tg iter wi) (hg : PG X tg g) (hb : PSs X body tb)
    (hs : ∀ x, foldedSetIterable iter X.env x = pure x := by intro _; rfl) : PS X (.For tg iter body [] pos) (tFor wi g tb) := by
  intro pins s σ H D I h
  refine wpAny_For (thn (hi pins s σ H _ I h) fun v s1 h1 => thn h1 fun itv s2 h2 => ?_) hs
  obtain ⟨it, fp, tn, J, H2, e, I2, T, st2, f2, W, ⟨m0, w0⟩, turn⟩ := h2
  subst e
  have stat : ∀ {H' : Hp}, (∀ b ∈ fp, H' b = none) → ∀ b ∈ fp, FpOk X pins H' b := fun hn b hb => ⟨hn b hb, (f2 b hb).2⟩
  refine codeAny_forLoop_any (fun n s' => ∃ i σ' H', Inv X pins σ' H' s' ∧ tn i s'.heap ∧ (∀ b ∈ fp, H' b = none) ∧ W i n σ' H') ?_ m0 ⟨0, σ, H2, I2, st2, fun b hb => (f2 b hb).1, w0⟩
  rintro n s3 ⟨i, σ3, H3, I3, st3, fr3, w3⟩
  rcases turn i n σ3 H3 w3 with ⟨stop, qn⟩ | ⟨go, N, hN, step⟩
  · refine wpAny_passesOwn hp (thn (T.done X rfl rfl rfl hc i pins s3 σ3 H3 X.xe I3 (stat fr3) st3 stop) fun r s4 ⟨hr, I4⟩ => ?_)
    subst hr
    exact wpAny_execs_nil ⟨σ3, H3, I4, qn⟩
  · refine wpAny_passesOwn hp (thn (T.item X rfl rfl rfl hc i pins s3 σ3 H3 X.xe I3 (stat fr3) st3 go) fun r s4 ⟨u, hr, h4⟩ => ?_)
    subst hr
    refine wpAny_passesOwn hp (thn h4 fun _ s5 ⟨x, H5, I5, r5, y5, st5, fr5⟩ => ?_)
    have I5' := I5.pinned (stat fr5) (T.obj _ _ st5)
    refine wpAny_passesOwn hp (thn (hg _ s5 σ3 H5 x u _ I5' r5 (step x H5 y5)) fun _ s6 ⟨σ6, H6, I6, q6⟩ => ?_)
    refine wpAny_passesOwn hp (thn (hb _ s6 σ6 H6 _ I6 q6) fun f s7 q7 => ?_)
    have again : ∀ {σ7 : St} {H7 : Hp}, Inv X (pins ++ pinsAt fp s5.heap) σ7 H7 s7 → N σ7 H7 → ∃ m, m < n ∧ ∃ i σ' H', Inv X pins σ' H' s7 ∧ tn i s7.heap ∧ (∀ b ∈ fp, H' b = none) ∧ W i m σ' H' := fun {σ7 H7} I7 n7 => by
      obtain ⟨m', hm, w7⟩ := hN σ7 H7 n7
      refine ⟨m', hm, i + 1, σ7, H7, I7.unpinned, T.keep _ _ _ st5 fun b hb o e => (I7.pin (b, o) (List.mem_append_right _ (List.mem_append_right _ (mem_pinsAt hb e)))).1, fun b hb => ?_, w7⟩
      obtain ⟨o, e, d⟩ := T.obj _ _ st5 b hb
      exact (I7.pin (b, o) (List.mem_append_right _ (List.mem_append_right _ (mem_pinsAt hb e)))).2.1
    cases f with
    | next => obtain ⟨σ7, H7, I7, n7⟩ := q7; exact again I7 n7
    | cont => obtain ⟨σ7, H7, I7, n7⟩ := q7; exact again I7 n7
    | brk => obtain ⟨σ7, H7, I7, q7⟩ := q7; exact ⟨σ7, H7, I7.unpinned, q7⟩
    | ret v => obtain ⟨x7, σ7, H7, I7, r7, q7⟩ := q7; exact ⟨x7, σ7, H7, I7.unpinned, r7, q7⟩
end
end L2
namespace L2
open PySem PySem.Spec PyProof.Rows
abbrev R2 := V → V → Hp → VK → Prop
def OpR (X : Cx) (f : Value → Value → Sem Value) (r : R2) : Prop :=
  ∀ (pins : List (Addr × Obj)) (s : Shared) (σ : St) (H : Hp) (x y : V) (v u : Value) (Q : VK), Inv X pins σ H s → RelV x v → RelV y u → r x y H Q →
    wpAny (model X.prog X.w) X.A (f v u) (EP X pins σ Q) X.xe s
def UnR (X : Cx) (f : Value → Sem Value) (r : V → Hp → VK → Prop) : Prop :=
  ∀ (pins : List (Addr × Obj)) (s : Shared) (σ : St) (H : Hp) (x : V) (v : Value) (Q : VK), Inv X pins σ H s → RelV x v → r x H Q →
    wpAny (model X.prog X.w) X.A (f v) (EP X pins σ Q) X.xe s
def CallR (X : Cx) (f : Value) (r : List V → Hp → VK → Prop) : Prop :=
  ∀ (pins : List (Addr × Obj)) (s : Shared) (σ : St) (H : Hp) (xs : List V) (us : List Value) (Q : VK), Inv X pins σ H s → Vals xs us → r xs H Q →
    wpAny (model X.prog X.w) X.A (call f us) (EP X pins σ Q) X.xe s
def TruR (X : Cx) (r : V → Hp → (Bool → Hp → Prop) → Prop) : Prop :=
  ∀ (pins : List (Addr × Obj)) (s : Shared) (σ : St) (H : Hp) (x : V) (v : Value) (Q : Bool → Hp → Prop), Inv X pins σ H s → RelV x v → r x H Q →
    wpAny (model X.prog X.w) X.A (truthy v) (TP X pins σ Q) X.xe s
def tOp (r : R2) (ta tb : TE) : TE := fun σ H Q => ta σ H fun x H1 => tb σ H1 fun y H2 => r x y H2 Q
def tUn (r : V → Hp → VK → Prop) (ta : TE) : TE := fun σ H Q => ta σ H fun x H1 => r x H1 Q
def rI (C : Int → Int → Prop) (g : Int → Int → V) : R2 := fun x y H Q => ∃ i j, x = .int i ∧ y = .int j ∧ C i j ∧ Q (g i j) H
def rI0 (g : Int → Int → V) : R2 := fun x y H Q => ∃ i j, x = .int i ∧ y = .int j ∧ Q (g i j) H
def rU (g : Int → V) : V → Hp → VK → Prop := fun x H Q => ∃ i, x = .int i ∧ Q (g i) H
section
variable {X : Cx} {a b c : Expr} {ta tb tc : TE} {pos : Pos}
theorem binT (ha : PE X a ta) (hb : PE X b tb) {pins : List (Addr × Obj)} {s : Shared} {σ : St} {H : Hp} {R : V → V → Hp → Prop} (I : Inv X pins σ H s)
    (h : ta σ H fun x H1 => tb σ H1 fun y H2 => R x y H2) {Q : Value → Shared → Prop} {f : Value → Value → Sem Value}
    (hf : ∀ v u s2 x y H2, Inv X pins σ H2 s2 → RelV x v → RelV y u → R x y H2 → wpAny (model X.prog X.w) X.A (f v u) Q X.xe s2) :
    wpAny (model X.prog X.w) X.A (eval a X.env) (fun v s₁ => wpAny (model X.prog X.w) X.A (eval b X.env) (fun u s₂ => wpAny (model X.prog X.w) X.A (f v u) Q X.xe s₂) X.xe s₁) X.xe s := by
  refine thn (ha pins s σ H _ I h) fun v s1 ⟨x, H1, I1, r1, q1⟩ => ?_
  refine thn (hb pins s1 σ H1 _ I1 q1) fun u s2 ⟨y, H2, I2, r2, q2⟩ => ?_
  exact hf v u s2 x y H2 I2 r1 r2 q2
theorem pe_op {op : Operator} {r : R2} (ho : OpR X (binaryOp op) r) (ha : PE X a ta) (hb : PE X b tb) : PE X (.BinOp a op b pos) (tOp r ta tb) := by
  intro pins s σ H Q I h
  exact wpAny_BinOp (binT ha hb I h fun v u s2 x y H2 I2 rx ry q => ho pins s2 σ H2 x y v u Q I2 rx ry q)
theorem pe_un {op : UnaryOp} {r : V → Hp → VK → Prop} (ho : UnR X (unaryOp op) r) (ha : PE X a ta) : PE X (.UnaryOp op a pos) (tUn r ta) := by
  intro pins s σ H Q I h
  exact UnaryOp_ (thn (ha pins s σ H _ I h) fun v s1 ⟨x, H1, I1, r1, q1⟩ => ho pins s1 σ H1 x v Q I1 r1 q1)
theorem opI {f : Value → Value → Sem Value} {C : Int → Int → Prop} {g : Int → Int → Int}
    (rule : ∀ (i j : Int) (t u : Tok) (s : Shared) (Q : Value → Shared → Prop) (E : Value → Shared → Prop), C i j → Q (.int (g i j) s.toks) { s with toks := s.toks + 1 } → wpAny (model X.prog X.w) X.A (f (.int i t) (.int j u)) Q E s) :
    OpR X f (rI C fun i j => .int (g i j)) := by
  intro pins s σ H x y v u Q I rx ry h
  obtain ⟨i, j, rfl, rfl, hc, q⟩ := h
  obtain ⟨t, rfl⟩ := rx
  obtain ⟨t', rfl⟩ := ry
  exact rule i j t t' s _ _ hc ⟨.int (g i j), H, I.tok _, ⟨_, rfl⟩, q⟩
theorem opI0 {f : Value → Value → Sem Value} {g : Int → Int → Int}
    (rule : ∀ (i j : Int) (t u : Tok) (s : Shared) (Q : Value → Shared → Prop) (E : Value → Shared → Prop), Q (.int (g i j) s.toks) { s with toks := s.toks + 1 } → wpAny (model X.prog X.w) X.A (f (.int i t) (.int j u)) Q E s) :
    OpR X f (rI0 fun i j => .int (g i j)) := by
  intro pins s σ H x y v u Q I rx ry h
  obtain ⟨i, j, rfl, rfl, q⟩ := h
  obtain ⟨t, rfl⟩ := rx
  obtain ⟨t', rfl⟩ := ry
  exact rule i j t t' s _ _ ⟨.int (g i j), H, I.tok _, ⟨_, rfl⟩, q⟩
theorem opB0 {f : Value → Value → Sem Value} {g : Int → Int → Bool}
    (rule : ∀ (i j : Int) (t u : Tok) (s : Shared) (Q : Value → Shared → Prop) (E : Value → Shared → Prop), Q (.bool (g i j)) s → wpAny (model X.prog X.w) X.A (f (.int i t) (.int j u)) Q E s) :
    OpR X f (rI0 fun i j => .bl (g i j)) := by
  intro pins s σ H x y v u Q I rx ry h
  obtain ⟨i, j, rfl, rfl, q⟩ := h
  obtain ⟨t, rfl⟩ := rx
  obtain ⟨t', rfl⟩ := ry
  exact rule i j t t' s _ _ ⟨.bl (g i j), H, I, rfl, q⟩
def CPow (i j : Int) : Prop := 0 ≤ j ∧ j ≤ 1000000 ∧ i.natAbs < 2 ^ 64
def CMul (i j : Int) : Prop := (-(2 ^ 64) < i ∧ i < 2 ^ 64) ∨ (-(2 ^ 64) < j ∧ j < 2 ^ 64)
theorem CMul.ok {i j : Int} (h : CMul i j) : IntMulOk i j := by
  rcases h with ⟨h1, h2⟩ | ⟨h1, h2⟩
  · exact .of_left (intBits_le_64 h1 h2)
  · exact .of_right (intBits_le_64 h1 h2)
theorem op_add : OpR X (binaryOp .Add) (rI0 fun i j => .int (i + j)) := opI0 fun _ _ _ _ _ _ _ q => add_int q
theorem op_sub : OpR X (binaryOp .Sub) (rI0 fun i j => .int (i - j)) := opI0 fun _ _ _ _ _ _ _ q => sub_int q
theorem op_mul : OpR X (binaryOp .Mult) (rI CMul fun i j => .int (i * j)) := opI fun _ _ _ _ _ _ _ hc q => mul_int q hc.ok
theorem op_mod : OpR X (binaryOp .Mod) (rI (fun _ j => 0 < j) fun i j => .int (i % j)) := opI fun i j _ _ _ _ _ hc q => by
  have h1 : (0 : Int) < j := hc
  exact mod_int' (by omega) (by rw [Int.fmod_eq_emod_of_nonneg i (by omega)]; exact q)
theorem op_pow : OpR X (binaryOp .Pow) (rI CPow fun i j => .int (i ^ j.toNat)) := opI fun _ _ _ _ _ _ _ hc q => pow_int_small hc.1 hc.2.1 hc.2.2 q
theorem unI {f : Value → Sem Value} {g : Int → Int}
    (rule : ∀ (i : Int) (t : Tok) (s : Shared) (Q : Value → Shared → Prop) (E : Value → Shared → Prop), Q (.int (g i) s.toks) { s with toks := s.toks + 1 } → wpAny (model X.prog X.w) X.A (f (.int i t)) Q E s) :
    UnR X f (rU fun i => .int (g i)) := by
  intro pins s σ H x v Q I rx h
  obtain ⟨i, rfl, q⟩ := h
  obtain ⟨t, rfl⟩ := rx
  exact rule i t s _ _ ⟨.int (g i), H, I.tok _, ⟨_, rfl⟩, q⟩
theorem un_neg : UnR X (unaryOp .USub) (rU fun i => .int (-i)) := unI fun _ _ _ _ _ q => neg_int q
end
section
variable {X : Cx} {a b c : Expr} {ta tb tc : TE} {pos : Pos}
theorem op_lt : OpR X (compareOp .Lt) (rI0 fun i j => .bl (decide (i < j))) := opB0 fun _ _ _ _ _ _ _ q => lt_int q
theorem op_le : OpR X (compareOp .LtE) (rI0 fun i j => .bl (decide (i ≤ j))) := opB0 fun _ _ _ _ _ _ _ q => le_int q
theorem op_gt : OpR X (compareOp .Gt) (rI0 fun i j => .bl (decide (j < i))) := opB0 fun _ _ _ _ _ _ _ q => gt_int q
theorem op_ge : OpR X (compareOp .GtE) (rI0 fun i j => .bl (decide (j ≤ i))) := opB0 fun _ _ _ _ _ _ _ q => ge_int q
theorem OpR.or {f : Value → Value → Sem Value} {r r' : R2} (h : OpR X f r) (h' : OpR X f r') : OpR X f (fun x y H Q => r x y H Q ∨ r' x y H Q) := by
  intro pins s σ H x y v u Q I rx ry q
  rcases q with q | q
  · exact h pins s σ H x y v u Q I rx ry q
  · exact h' pins s σ H x y v u Q I rx ry q
theorem nomark (b : Expr) {op : CmpOp} (h : op ≠ .In := by decide) (h2 : op ≠ .NotIn := by decide) : behindInMarks op b = false := by
  have e1 : (op == CmpOp.In) = false := by cases op <;> first | rfl | exact absurd rfl h
  have e2 : (op == CmpOp.NotIn) = false := by cases op <;> first | rfl | exact absurd rfl h2
  cases b <;> simp [behindInMarks, e1, e2]
theorem pe_cmpR {op : CmpOp} {r : R2} (ho : OpR X (compareOp op) r) (ha : PE X a ta) (hb : PE X b tb) (hm : behindInMarks op b = false) : PE X (.Compare a [op] [b] pos) (tOp r ta tb) := by
  intro pins s σ H Q I h
  exact wpAny_Compare1 (binT ha hb I h fun v u s2 x y H2 I2 rx ry q => ho pins s2 σ H2 x y v u Q I2 rx ry q) hm
def tTest (t : TE) : TT := fun σ H Q => t σ H fun x H' => ∃ k, x = .bl k ∧ Q k H'
theorem pt_cmpR {op : CmpOp} {r : R2} (ho : OpR X (compareOp op) r) (ha : PE X a ta) (hb : PE X b tb) (hm : behindInMarks op b = false) : PT X (.Compare a [op] [b] pos) (tTest (tOp r ta tb)) := by
  intro pins s σ H Q I h
  refine wpAny_isTrue_Compare1 (thn (ha pins s σ H _ I h) fun v s1 ⟨x, H1, I1, r1, q1⟩ => thn (hb pins s1 σ H1 _ I1 q1) fun u s2 ⟨y, H2, I2, r2, q2⟩ =>
    thn (ho pins s2 σ H2 x y v u _ I2 r1 r2 q2) fun c s3 ⟨z, H3, I3, r3, k, e, q3⟩ => ?_) hm
  subst e
  cases r3
  exact wpAny_truthy_bool ⟨H3, I3, q3⟩
def TruV (K : PySem.W.Frag) (x : V) (H : Hp) (k : Bool) : Prop :=
  match x with
  | .non => k = false
  | .bl b => k = b
  | .int i => k = (i != 0)
  | .str y => y.length ≤ sizeLine ∧ k = ((y.length : Int) != 0)
  | .byt y => y.size ≤ sizeLine ∧ k = ((y.size : Int) != 0)
  | .ref p => (∃ xs, SqL K H p xs ∧ k = !xs.isEmpty) ∨ (∃ xs, SqT K H p xs ∧ k = !xs.isEmpty) ∨ ∃ kvs, H p = some (.dK kvs) ∧ k = !kvs.isEmpty
  | _ => False
theorem isEmpty_kv {κ : Type} {kvs : List (κ × V)} {vs : List (κ × Value)} (r : KV kvs vs) : (!vs.isEmpty) = !kvs.isEmpty := by
  cases r <;> rfl
theorem isEmpty_of {xs : List V} {its : List Value} (r : Vals xs its) : (!its.toArray.isEmpty) = !xs.isEmpty := by
  cases r <;> simp
theorem line63 : (sizeLine : Nat) < 2 ^ 63 := by rw [sizeLine_eq]; decide
theorem tru_ok : TruR X (fun x H Q => ∃ k, TruV X.K x H k ∧ Q k H) := by
  intro pins s σ H x v Q I rx h
  obtain ⟨k, e, q⟩ := h
  have hl := line63
  have hs : sizeLine = 16777216 := sizeLine_eq
  cases x with
  | non =>
    cases rx
    have e' : k = false := e
    subst e'
    exact truthy_none ⟨H, I, q⟩
  | bl b =>
    cases rx
    have e' : k = b := e
    subst e'
    exact wpAny_truthy_bool ⟨H, I, q⟩
  | int i =>
    obtain ⟨t, rfl⟩ := rx
    have e' : k = (i != 0) := e
    subst e'
    exact PySem.P.truthy_int ⟨H, I, q⟩
  | str y =>
    obtain ⟨t, rfl⟩ := rx
    obtain ⟨hy, e'⟩ : y.length ≤ sizeLine ∧ k = ((y.length : Int) != 0) := e
    subst e'
    exact PySem.P.truthy_str (by omega) ⟨H, I.tok _, q⟩
  | byt y =>
    obtain ⟨t, rfl⟩ := rx
    obtain ⟨hy, e'⟩ : y.size ≤ sizeLine ∧ k = ((y.size : Int) != 0) := e
    subst e'
    exact PySem.W.truthy_bytes (by omega) ⟨H, I.tok _, q⟩
  | ref p =>
    cases rx
    have e' : (∃ xs, SqL X.K H p xs ∧ k = !xs.isEmpty) ∨ (∃ xs, SqT X.K H p xs ∧ k = !xs.isEmpty) ∨ ∃ kvs, H p = some (.dK kvs) ∧ k = !kvs.isEmpty := e
    rcases e' with ⟨xs, hx, e'⟩ | ⟨xs, hx, e'⟩ | ⟨kvs, hx, e'⟩
    · subst e'
      obtain ⟨its, r, pl, hz⟩ := I.list hx
      have hlen := r.length
      exact wpAny_truthy_list pl.isList (by simp only [List.size_toArray]; omega) ⟨H, I.tok _, by rw [isEmpty_of r]; exact q⟩
    · subst e'
      obtain ⟨its, r, pl, hz⟩ := I.tuple hx
      have hlen := r.length
      exact truthy_tuple pl (by simp only [List.size_toArray]; omega) ⟨H, I.tok _, by rw [isEmpty_of r]; exact q⟩
    · subst e'
      obtain ⟨hz, hS, vs, r, m⟩ : kvs.length ≤ sizeLine ∧ (p == sysModules) = false ∧ ∃ vs, KV kvs vs ∧ s.heap.DictOf (mixKind X.prog X.w) p vs := I.hok p _ hx
      have hlen : kvs.length = vs.length := Paired.length r
      exact wpAny_truthy_dict hS m (by omega) ⟨H, I.tok _, by rw [isEmpty_kv r]; exact q⟩
  | _ => exact (show False from e).elim
theorem pt_truth (ha : PE X a ta) (he : ∀ whole, isTrue a X.env whole = (do let v ← whole; standAt a.pos; holding [v] (truthy v))) :
    PT X a (fun σ H Q => ta σ H fun x H' => ∃ k, TruV X.K x H' k ∧ Q k H') := by
  intro pins s σ H Q I h
  exact isTrue_plain (thn (ha pins s σ H _ I h) fun v s1 ⟨x, H1, I1, r1, q1⟩ => tru_ok pins s1 σ H1 x v Q I1 r1 q1) (he _)
theorem vals1 {x : V} {us : List Value} (r : Vals [x] us) : ∃ u, us = [u] ∧ RelV x u := by
  cases r with
  | cons r1 r2 => cases r2; exact ⟨_, rfl, r1⟩
theorem vals2 {x y : V} {us : List Value} (r : Vals [x, y] us) : ∃ u w', us = [u, w'] ∧ RelV x u ∧ RelV y w' := by
  cases r with
  | cons r1 r2 =>
    cases r2 with
    | cons r3 r4 => cases r4; exact ⟨_, _, rfl, r1, r3⟩
theorem call_abs : CallR X (.builtin "abs") (fun xs H Q => ∃ i, xs = [.int i] ∧ Q (.int (if i < 0 then -i else i)) H) := by
  intro pins s σ H xs us Q I r h
  obtain ⟨i, rfl, q⟩ := h
  obtain ⟨u, rfl, t, rfl⟩ := vals1 r
  exact call_abs_int fun u tk => ⟨.int (if i < 0 then -i else i), H, I.tok _, ⟨_, rfl⟩, q⟩
theorem call_max2 (hc : X.calm = true) : CallR X (.builtin "max") (fun xs H Q => ∃ i j, xs = [.int i, .int j] ∧ Q (.int (if j > i then j else i)) H) := by
  intro pins s σ H xs us Q I r h
  obtain ⟨i, j, rfl, q⟩ := h
  obtain ⟨u, w', rfl, ⟨t, rfl⟩, ⟨t', rfl⟩⟩ := vals2 r
  refine max_two_ints (I.ok.hd hc) fun h' tk k => ⟨_, H, I.kept k, ?_, q⟩
  by_cases hj : j > i
  · rw [if_pos hj, if_pos hj]; exact ⟨_, rfl⟩
  · rw [if_neg hj, if_neg hj]; exact ⟨_, rfl⟩
end
end L2
namespace L2
open PySem PySem.Spec PyProof.Rows
structure ObjM (h : Heap) (x dx C : Addr) (mA : Str → Option Value) : Prop where
  obj : h.get? x = some (PySem.W.instObj C dx)
  ns : h.Ns1 dx mA
  ne : dx ≠ x
theorem lookIn_ns {h : Heap} {dx : Addr} {mA : Str → Option Value} (n : h.Ns1 dx mA) : ∃ od, h.get? dx = some od ∧ ∀ name, PySem.W.lookIn name od = some (mA name) := by
  obtain ⟨o, es, ep, ho, hd, hk, _, hm⟩ := n
  refine ⟨o, ho, fun name => ?_⟩
  have e := hm name
  unfold nsFind findBy at e
  rw [← Array.find?_toList] at e
  unfold PySem.W.lookIn
  rw [hd]
  dsimp only
  split
  · rename_i y q
    rw [q] at e
    exact congrArg some e
  · rename_i q
    rw [q] at e
    have a : es.toList.any (·.refKey) = false := by
      rw [List.any_eq_false]
      intro y hy
      obtain ⟨z, t, hkey⟩ := hk y (Array.mem_toList_iff.mp hy)
      simp [DictEntry.refKey, hkey]
    have a' : ¬ es.toList.any (·.refKey) = true := by rw [a]; exact Bool.false_ne_true
    rw [if_neg a']
    exact congrArg some e
theorem ObjM.look {h : Heap} {x dx C : Addr} {mA : Str → Option Value} (I : ObjM h x dx C mA) : ∃ od, PySem.W.InstAt h x (PySem.W.instObj C dx) C (some od) ∧ ∀ name, PySem.W.lookIn name od = some (mA name) :=
  let ⟨od, ho, hl⟩ := lookIn_ns I.ns
  ⟨od, ⟨I.obj, rfl, rfl, ho⟩, hl⟩
section
variable {prog : Program} {w : World} {A : Around} {E : Value → Shared → Prop} {s : Shared} {K : PySem.W.Frag} {x dx C f : Addr} {mA : Str → Option Value} {name : Str} {v : Value}
end
theorem RelO.some_of {v : V} {o : Option Value} (r : RelO (some v) o) : ∃ u, o = some u ∧ RelV v u := by
  cases o with
  | none => exact (show False from r).elim
  | some u => exact ⟨u, rfl, r⟩
section
variable {P : Program} {w : World} {H H' : Hp} {h h' : Heap} {a C dx : Addr} {fs fs' : List (Str × V)}
end
structure Cls (K : PySem.W.Frag) (C : Addr) : Prop where
  pg : PySem.W.plainGet K C Str.empty = true
  hd : PySem.W.hasDictIn K C = true
  po : PySem.W.plainOver K C = true
  sa : PySem.W.findIn K (.ref C) "__setattr__" = some (some (.builtin "object.__setattr__"))
theorem Cls.get {K : PySem.W.Frag} {C : Addr} (c : Cls K C) (f : Str) : PySem.W.plainGet K C f = true := c.pg
structure Con (K : PySem.W.Frag) (C : Addr) (f : Str) (v : V) (u : Value) : Prop where
  at_ : PySem.W.findIn K (.ref C) f = some (some u)
  rel : RelV v u
  get : PySem.W.specialIn K u "__get__" = some none
  cp : PySem.W.copiedNames.contains f = false
structure Meth (K : PySem.W.Frag) (C : Addr) (m : Str) (f : Addr) : Prop where
  at_ : PySem.W.findIn K (.ref C) m = some (some (.ref f))
  fn : PySem.W.isFn K (.ref f) = true
  kp : PySem.W.keepIn K (.ref f) = true
section
variable {X : Cx} {pins : List (Addr × Obj)} {σ : St} {H : Hp} {s : Shared} {a C dx : Addr} {fs : List (Str × V)} {f : Str} {v : V} {A : Around} {E : Value → Shared → Prop}
end
section
variable {X : Cx} {o e value : Expr} {f : Str} {pos pos' tpos : Pos} {ta tv : TE}
end
section
variable {X : Cx} {pins : List (Addr × Obj)} {σ : St} {H : Hp} {s : Shared} {A : Around} {E : Value → Shared → Prop} {Q : Value → Shared → Prop} {c : Value} {b : Bool}
inductive TyOf (K : PySem.W.Frag) (H : Hp) : V → Value → Prop where
  | non : TyOf K H .non (.type "NoneType")
  | bl (x : Bool) : TyOf K H (.bl x) (.type "bool")
  | int (i : Int) : TyOf K H (.int i) (.type "int")
  | str (x : Str) : TyOf K H (.str x) (.type "str")
  | flt (x : UInt64) : TyOf K H (.flt x) (.type "float")
  | lst {a : Addr} {xs : List V} (e : H a = some (.lst xs)) : TyOf K H (.ref a) (.type "list")
  | frz {a : Addr} {o : Obj} {xs : List V} (e : H a = some (.frz o (.lst xs))) : TyOf K H (.ref a) (.type "list")
  | tup {a : Addr} {xs : List V} (e : H a = some (.tup xs)) : TyOf K H (.ref a) (.type "tuple")
  | dK {a : Addr} {kvs : List (Key × V)} (e : H a = some (.dK kvs)) : TyOf K H (.ref a) (.type "dict")
  | dT {a : Addr} {kvs : List (List Key × V)} (e : H a = some (.dT kvs)) : TyOf K H (.ref a) (.type "dict")
  | ins {a C dx : Addr} {fs : List (Str × V)} (e : H a = some (.ins C dx fs)) (cl : Cls K C) (ha : PySem.W.findIn K (.ref C) "__class__" = some (some (.builtin "object.__class__")))
      (hn : PySem.W.specialIn K (.builtin "object.__class__") "__get__" = some (some (.builtin "getset_descriptor.__get__"))) (htk : PySem.W.takesIn K (.builtin "object.__class__") = some true)
      (hm : PySem.W.mroIn K C (.type "object") = some true) : TyOf K H (.ref a) (.ref C)
end
end L2
namespace L2
open PySem PySem.Spec PyProof.Rows
structure Room (k : Nat) (A : Around) : Prop where
  hd : A.handled = none
  dp : A.depth + 3 * k + 5 < recursionLimit
  un : A.units + 16 * k + 200 < cLine
theorem Room.mono {j k : Nat} {A : Around} (r : Room k A) (h : j ≤ k) : Room j A := ⟨r.hd, by have := r.dp; omega, by have := r.un; omega⟩
theorem Room.deeper {k : Nat} {A : Around} (r : Room (k + 1) A) (env : Env) : Room k (A.deeper env) :=
  ⟨r.hd, by have := r.dp; show A.depth + 1 + 3 * k + 5 < _; omega, by have := r.un; show A.units + 3 + 16 * k + 200 < _; omega⟩
theorem Room.in1 {k : Nat} {A : Around} (r : Room (k + 1) A) : Room k A.in1 :=
  ⟨r.hd, by have := r.dp; show A.depth + 3 * k + 5 < _; omega, by have := r.un; show A.units + 1 + 16 * k + 200 < _; omega⟩
theorem Room.depth {k : Nat} {A : Around} (r : Room k A) : A.depth < recursionLimit := by have := r.dp; omega
theorem Room.units {k : Nat} {A : Around} (r : Room k A) : A.units + 64 < cLine := by have := r.un; omega
def tNil : TA := fun _ H Q => Q [] H
def tCons (ta : TE) (tr : TA) : TA := fun σ H Q => ta σ H fun x H1 => tr σ H1 fun xs H2 => Q (x :: xs) H2
section
variable {X : Cx} {e : Expr} {es : List Expr} {te : TE} {t : TA} {pos : Pos}
theorem pa_nil : PA X [] tNil := fun _ _ _ _ H Q I h => Calls.spliced_nil ⟨[], H, I, .nil, h⟩
theorem pa_cons (ha : PE X e te) (hr : PA X es t) (hs : starEach (e :: es) X.env = (false, eval e X.env) :: starEach es X.env := by rfl) : PA X (e :: es) (tCons te t) := by
  intro pos pins s σ H Q I h
  rw [hs]
  show wpAny _ _ (spliced ((false, eval e X.env) :: backTo pos (starEach es X.env))) _ _ s
  refine Calls.spliced_cons (thn (ha pins s σ H _ I h) fun u s1 ⟨x, H1, I1, r1, q1⟩ => ?_)
  exact thn (hr pos pins s1 σ H1 _ I1 q1) fun us s2 ⟨xs, H2, I2, r2, q2⟩ => ⟨x :: xs, H2, I2, .cons r1 r2, q2⟩
def tTup (t : TA) : TE := fun σ H Q => t σ H fun xs H1 => xs.length ≤ sizeLine ∧ ∀ p, H1 p = none → Q (.ref p) (upd H1 p (.tup xs))
def tLst (t : TA) : TE := fun σ H Q => t σ H fun xs H1 => xs.length ≤ sizeLine ∧ ∀ p, H1 p = none → Q (.ref p) (upd H1 p (.lst xs))
theorem pe_tup {x1} (h : PA X es t) : PE X (.Tuple es x1 pos) (tTup t) := by
  intro pins s σ H Q I hq
  refine wpAny_Tuple_spliced (thn (h pos pins s σ H _ I hq) fun us s1 ⟨xs, H1, I1, r, z, q⟩ => ⟨by rw [← r.length]; exact z, ?_⟩)
  have hf : H1 s1.heap.objs.size = none := I1.hok.fresh (Nat.le_refl _)
  refine ⟨.ref s1.heap.objs.size, upd H1 s1.heap.objs.size (.tup xs), I1.laid (t' := s1.toks) (fun b u e => Heap.get?_push_of_some _ e) (Nat.le_refl _) ?_, rfl, q _ hf⟩
  exact ⟨z, us, r, ⟨_, Heap.get?_push_size _ rfl, rfl, _, rfl⟩⟩
theorem pe_lst (h : PA X es t) : PE X (.List es pos) (tLst t) := by
  intro pins s σ H Q I hq
  refine wpAny_List_spliced (thn (h pos pins s σ H _ I hq) fun us s1 ⟨xs, H1, I1, r, z, q⟩ => ⟨by rw [← r.length]; exact z, ?_⟩)
  have hf : H1 s1.heap.objs.size = none := I1.hok.fresh (Nat.le_refl _)
  refine ⟨.ref s1.heap.objs.size, upd H1 s1.heap.objs.size (.lst xs), I1.laid (t' := s1.toks) (fun b u e => Heap.get?_push_of_some _ e) (Nat.le_refl _) ?_, rfl, q _ hf⟩
  exact ⟨z, us, 0, r, Heap.get?_push_size _ rfl⟩
end
abbrev Sp := List V → Hp → VK → XK → Prop
abbrev CXT := List Env → Hp → Shared → XK → Value → Shared → Prop
structure Env0 (P : Program) (w : World) (K : PySem.W.Frag) (mg : Str → Option Value) (base : Heap) (A : Around) (outer : List Env) (s : Shared) (H : Hp) : Prop where
  frames : A.frames = some outer
  mod : Mod K mg base
  bs : ∀ b o, base.get? b = some o → s.heap.get? b = some o ∧ H b = none
  bsz : base.objs.size ≤ s.heap.objs.size
  funs : s.heap.FunFrames base outer
  frf : ∀ b ∈ frs outer, H b = none
  hok : HOk P w H s.heap
  bare : AllBare s.gens
def CE (outer : List Env) (P : Program) (w : World) (H : Hp) (s : Shared) (Q : VK) (u : Value) (s' : Shared) : Prop :=
  ∃ v H', s'.os = s.os ∧ AllBare s'.gens ∧ Un (frs outer) [] H H' s.heap s'.heap ∧ HOk P w H' s'.heap ∧ RelV v u ∧ Q v H'
def CR (CX : CXT) (outer : List Env) (P : Program) (w : World) (H : Hp) (s : Shared) (Q : VK) (E : XK) (r : Result) (s' : Shared) : Prop :=
  match r with
  | .ok (.ret u) => CE outer P w H s Q u s'
  | .ok _ => False
  | .error e => CX outer H s E e s'
structure FnOk (P : Program) (w : World) (K : PySem.W.Frag) (mg : Str → Option Value) (base : Heap) (CX : CXT) (k : Nat) (f : Addr) (fd : FuncData) (ps : List Str) (sp : Sp) : Prop where
  len : ∀ vs H Q E, sp vs H Q E → vs.length = ps.length
  run : ∀ (A : Around) (outer : List Env) (s : Shared) (H : Hp) (args : Args) (us : List Value) (vs : List V) (Q : VK) (E : XK), Room k A → Env0 P w K mg base A outer s H → BindsTo s fd args (ps.zip us) → Vals vs us → sp vs H Q E →
    codeAny (model P w) A (.call (.ref f) args) (CR CX outer P w H s Q E) s
theorem FnOk.mono {P : Program} {w : World} {K : PySem.W.Frag} {mg : Str → Option Value} {base : Heap} {CX : CXT} {j k : Nat} {f : Addr} {fd : FuncData} {ps : List Str} {sp : Sp} (F : FnOk P w K mg base CX j f fd ps sp) (h : j ≤ k) :
    FnOk P w K mg base CX k f fd ps sp := ⟨F.len, fun A outer s H args us vs Q E hr => F.run A outer s H args us vs Q E (hr.mono h)⟩
theorem FnOk.imp {P : Program} {w : World} {K : PySem.W.Frag} {mg : Str → Option Value} {base : Heap} {CX : CXT} {k : Nat} {f : Addr} {fd : FuncData} {ps : List Str} {sp sp' : Sp} (F : FnOk P w K mg base CX k f fd ps sp)
    (h : ∀ vs H Q E, sp' vs H Q E → sp vs H Q E) : FnOk P w K mg base CX k f fd ps sp' :=
  ⟨fun vs H Q E q => F.len vs H Q E (h _ _ _ _ q), fun A outer s H args us vs Q E hr he hb hv hs => F.run A outer s H args us vs Q E hr he hb hv (h _ _ _ _ hs)⟩
theorem Env0.in1 {P : Program} {w : World} {K : PySem.W.Frag} {mg : Str → Option Value} {base : Heap} {A : Around} {outer : List Env} {s : Shared} {H : Hp} (e : Env0 P w K mg base A outer s H) :
    Env0 P w K mg base A.in1 outer s H := ⟨e.frames, e.mod, e.bs, e.bsz, e.funs, e.frf, e.hok, e.bare⟩
section
variable {X : Cx} {pins : List (Addr × Obj)} {σ : St} {H : Hp} {s s' : Shared}
theorem Inv.env0 (I : Inv X pins σ H s) : Env0 X.prog X.w X.K X.mg X.base X.A X.stack s H :=
  ⟨I.ok.frames, I.ok.mod, I.bs, Nat.le_trans I.ok.bsz I.sz, I.stack, I.stkFree, I.hok, I.bare⟩
theorem Inv.after {Q : VK} {u : Value} (I : Inv X pins σ H s) (h : CE X.stack X.prog X.w H s Q u s') : EP X pins σ Q u s' := by
  obtain ⟨v, H', os, bare, un, hok, r, q⟩ := h
  obtain ⟨hh, g, d, t, os'⟩ := s'
  obtain rfl : os' = s.os := os
  exact ⟨v, H', I.call (h' := hh) (g' := g) (d' := d) (t' := t) (ch := []) un hok bare (fun b z => absurd z (by simp)), r, q⟩
end
def tCall (sp : Sp) (dvs : List V) (E : XK) (t : TA) : TE := fun σ H Q => t σ H fun vs H1 => sp (vs ++ dvs) H1 Q E
def Binds (K : PySem.W.Frag) (fd : FuncData) (ps : List Str) (ds : List Value) : Prop :=
  ∀ (s : Shared) (us : List Value), K.In s.heap → (us ++ ds).length = ps.length → BindsTo s fd ⟨us, []⟩ (ps.zip (us ++ ds))
theorem Binds.all {K : PySem.W.Frag} {fd : FuncData} {ps : List Str} (h : ∀ us : List Value, us.length = ps.length → bindArgs fd ⟨us, []⟩ = pure (ps.zip us)) : Binds K fd ps [] := fun s us _ hl => by
  rw [List.append_nil] at hl ⊢
  exact .of_eq (h us hl)
def Passes (CX : CXT) (X : Cx) (E : XK) : Prop := ∀ (pins : List (Addr × Obj)) (σ : St) (H : Hp) (s : Shared) (e : Value) (s' : Shared), Inv X pins σ H s → CX X.stack H s E e s' → X.xe e s'
section
variable {X : Cx} {CX : CXT} {k : Nat} {f C : Addr} {fd : FuncData} {ps : List Str} {sp : Sp} {dvs : List V} {ds : List Value} {E : XK} {x m : Str} {p pos apos : Pos} {e o : Expr} {es : List Expr} {ta : TE} {t : TA}
theorem run_fn {pins : List (Addr × Obj)} {σ : St} {H : Hp} {s : Shared} {Q : VK} {us : List Value} {vs : List V} (F : FnOk X.prog X.w X.K X.mg X.base CX k f fd ps sp) (hr : Room k X.A) (hb : Binds X.K fd ps ds) (hd : Vals dvs ds) (hx : Passes CX X E)
    (I : Inv X pins σ H s) (r : Vals vs us) (h : sp (vs ++ dvs) H Q E) : wpAny (model X.prog X.w) X.A (call (.ref f) us) (EP X pins σ Q) X.xe s := by
  have r2 : Vals (vs ++ dvs) (us ++ ds) := r.append hd
  have hl : (us ++ ds).length = ps.length := by rw [← r2.length]; exact F.len _ _ _ _ h
  refine wpAny_call (codeAny_mono (F.run X.A X.stack s H ⟨us, []⟩ (us ++ ds) (vs ++ dvs) Q E hr I.env0 (hb s us I.kIn hl) r2 h) fun r s' hq => ?_)
  cases r with
  | error e => exact hx pins σ H s e s' I hq
  | ok fl =>
    cases fl with
    | ret u => exact I.after hq
    | next => exact False.elim hq
    | brk => exact False.elim hq
    | cont => exact False.elim hq
theorem pe_call (F : FnOk X.prog X.w X.K X.mg X.base CX k f fd ps sp) (hr : Room k X.A) (hg : Gl X x) (hm : X.mg x = some (.ref f)) (hk : PySem.W.keepIn X.K (.ref f) = true) (hb : Binds X.K fd ps ds) (hd : Vals dvs ds) (hx : Passes CX X E)
    (ha : PA X (e :: es) t) (hdb : (x == ("__debug__" : Str)) = false := by decide) (he : starEach (e :: es) X.env = (false, eval e X.env) :: starEach es X.env := by rfl) (hpl : (backTo pos (starEach es X.env)).any (·.1) = false := by rfl) :
    PE X (.Call (.Name x p) (e :: es) [] pos) (tCall sp dvs E t) := by
  intro pins s σ H Q I h
  refine wpAny_Call_Name_kw (ld_glob I hg hm ?_ hdb)
  refine PySem.W.callWith_K (h₀ := X.base) I.ok.mod.kin hk (thn (ha pos pins s σ H _ I h) fun us s1 ⟨vs, H1, I1, r, q⟩ => ⟨I1.kIn, ?_⟩) he hpl
  exact run_fn F hr hb hd hx I1 r q
structure Mk (K : PySem.W.Frag) (C f : Addr) : Prop where
  makes : PySem.W.makesIn K C = true
  init : PySem.W.findIn K (.ref C) "__init__" = some (some (.ref f))
  fn : PySem.W.isFn K (.ref f) = true
  kp : PySem.W.keepIn K (.ref C) = true
end
def PK (X : Cx) (kws : List Keyword) (t : TA) : Prop :=
  ∀ (pos : Pos) (pins : List (Addr × Obj)) (s : Shared) (σ : St) (H : Hp) (Q : List V → Hp → Prop), Inv X pins σ H s → t σ H Q → wpAny (model X.prog X.w) X.A (evalAll ((backToKw pos (keywordEach kws X.env)).map (·.2))) (AP X pins σ Q) X.xe s
section
variable {X : Cx} {CX : CXT} {k : Nat} {f C : Addr} {fd : FuncData} {ps ks : List Str} {sp : Sp} {E : XK} {x m : Str} {p pos apos kpos : Pos} {e o : Expr} {es : List Expr} {kws : List Keyword} {te ta : TE} {t tk : TA} {nm : Option Str}
theorem pk_nil : PK X [] tNil := fun _ _ _ _ H Q I h => wpAny_evalAll_nil ⟨[], H, I, .nil, h⟩
theorem pk_cons (ha : PE X e te) (hr : PK X kws t) : PK X (⟨nm, e, kpos⟩ :: kws) (tCons te t) := by
  intro pos pins s σ H Q I h
  show wpAny _ _ (evalAll ((do let v ← eval e X.env; standAt pos; pure v) :: (backToKw pos (keywordEach kws X.env)).map (·.2))) _ _ s
  refine wpAny_evalAll_cons (wpAny_bind (thn (ha pins s σ H _ I h) fun u s1 ⟨x, H1, I1, r1, q1⟩ => wpAny_bind (wpAny_standAt (wpAny_pure ?_))))
  exact thn (hr pos pins s1 σ H1 _ I1 q1) fun us s2 ⟨xs, H2, I2, r2, q2⟩ => ⟨x :: xs, H2, I2, .cons r1 r2, q2⟩
structure KBinds (K : PySem.W.Frag) (fd : FuncData) (ps ks : List Str) (g : List Value → List Value → List Value) (gV : List V → List V → List V) : Prop where
  to : ∀ (s : Shared) (us ws : List Value), K.In s.heap → (g us ws).length = ps.length → BindsTo s fd ⟨us, ks.zip ws⟩ (ps.zip (g us ws))
  rel : ∀ {vs : List V} {us : List Value} {zs : List V} {ws : List Value}, Vals vs us → Vals zs ws → Vals (gV vs zs) (g us ws)
variable {g : List Value → List Value → List Value} {gV : List V → List V → List V}
end
structure FnScope (N P : List Str) (sc : Scope) : Prop where
  kind : sc.kind = .function
  co : sc.isCoroutine = false
  gen : sc.isGenerator = false
  nd : N.Nodup
  pre : N.take P.length = P
  par : ∀ x ∈ P, sc.names.lookup x = some .local ∨ sc.names.lookup x = some .cell
  nofree : ∀ y ∈ sc.names, y.2 ≠ .free
theorem bindL_out {kindOf : Str → Option NameKind} {x : Str} : ∀ {binds : List (Str × Value)} {m : Str → Option Value}, (∀ v, (x, v) ∉ binds) → bindL kindOf binds m x = m x
  | [], _, _ => rfl
  | (n, v) :: r, m, h => by
    unfold bindL
    rw [bindL_out fun w hw => h w (List.mem_cons_of_mem _ hw)]
    split
    · have : x ≠ n := by rintro rfl; exact h v List.mem_cons_self
      simp [this]
    · rfl
theorem bindC_out {kindOf : Str → Option NameKind} {x : Str} : ∀ {binds : List (Str × Value)} {m : Str → Option Value}, (∀ v, (x, v) ∉ binds) → bindC kindOf binds m x = m x
  | [], _, _ => rfl
  | (n, v) :: r, m, h => by
    unfold bindC
    rw [bindC_out fun w hw => h w (List.mem_cons_of_mem _ hw)]
    split
    · rfl
    · have : x ≠ n := by rintro rfl; exact h v List.mem_cons_self
      simp [this]
theorem bindL_get {kindOf : Str → Option NameKind} {x : Str} {v : Value} : ∀ {P : List Str} {vs : List Value} {i : Nat} {m : Str → Option Value}, P.Nodup → P[i]? = some x → vs[i]? = some v → kindOf x = some .local →
    bindL kindOf (P.zip vs) m x = some v
  | [], _, _, _, _, h, _, _ => by simp at h
  | _ :: _, [], _, _, _, _, h, _ => by simp at h
  | p :: P, w :: vs, 0, m, nd, h1, h2, hk => by
    simp at h1 h2; subst h1; subst h2
    show bindL kindOf ((p, w) :: P.zip vs) m p = _
    unfold bindL
    rw [bindL_out fun v hv => (List.nodup_cons.mp nd).1 (List.of_mem_zip hv).1, if_pos hk]
    simp
  | p :: P, w :: vs, i + 1, m, nd, h1, h2, hk => by
    show bindL kindOf ((p, w) :: P.zip vs) m x = _
    unfold bindL
    exact bindL_get (i := i) (List.nodup_cons.mp nd).2 (by simpa using h1) (by simpa using h2) hk
theorem bindC_get {kindOf : Str → Option NameKind} {x : Str} {v : Value} : ∀ {P : List Str} {vs : List Value} {i : Nat} {m : Str → Option Value}, P.Nodup → P[i]? = some x → vs[i]? = some v → kindOf x ≠ some .local →
    bindC kindOf (P.zip vs) m x = some v
  | [], _, _, _, _, h, _, _ => by simp at h
  | _ :: _, [], _, _, _, _, h, _ => by simp at h
  | p :: P, w :: vs, 0, m, nd, h1, h2, hk => by
    simp at h1 h2; subst h1; subst h2
    show bindC kindOf ((p, w) :: P.zip vs) m p = _
    unfold bindC
    rw [bindC_out fun v hv => (List.nodup_cons.mp nd).1 (List.of_mem_zip hv).1, if_neg hk]
    simp
  | p :: P, w :: vs, i + 1, m, nd, h1, h2, hk => by
    show bindC kindOf ((p, w) :: P.zip vs) m x = _
    unfold bindC
    exact bindC_get (i := i) (List.nodup_cons.mp nd).2 (by simpa using h1) (by simpa using h2) hk
def start (N : List Str) (vs : List V) : St := vs.map some ++ List.replicate (N.length - vs.length) none
def cxOf (CX : CXT) (P : Program) (w : World) (K : PySem.W.Frag) (mg : Str → Option Value) (base : Heap) (N : List Str) (qual : Str) (scope : Scope) (f : Addr) (cd : Value) (A : Around) (outer : List Env) (s : Shared) (H : Hp) (E : XK) : Cx where
  prog := P
  w := w
  K := K
  mg := mg
  base := base
  A := A.deeper (envOfC qual scope s.heap.objs.size f cd)
  N := N
  s_0 := s
  H_0 := H
  env := envOfC qual scope s.heap.objs.size f cd
  outer := outer
  stack := envOfC qual scope s.heap.objs.size f cd :: outer
  ex := []
  calm := true
  fn := fun _ => true
  pn := []
  xe := fun e s' => wpAny (model P w) (A.deeper (envOfC qual scope s.heap.objs.size f cd)) (leaving (envOfC qual scope s.heap.objs.size f cd) e) (fun _ s'' => CX outer H s E e s'') (fun e' s'' => CX outer H s E e' s'') s'
theorem cell_has {sc : Scope} {n : Nat} {x : Str} (h : sc.names.lookup x = some .cell) : ∃ c, (cellsFrom n sc.names []).lookup x = some c := by
  have q := PySem.W.cellsFrom_some sc.names n [] (.inl h)
  exact Option.isSome_iff_exists.mp q
theorem inv_start {CX : CXT} {P : Program} {w : World} {K : PySem.W.Frag} {mg : Str → Option Value} {base : Heap} {N ps : List Str} {qual : Str} {scope : Scope} {f : Addr} {cd : Value} {A : Around} {outer : List Env} {s s1 : Shared} {H : Hp} {E : XK} {us : List Value} {vs : List V}
    (S : FnScope N ps scope) (hd : A.handled = none) (e0 : Env0 P w K mg base A outer s H) (hl : vs.length = ps.length) (r : Vals vs us)
    (x : InCallC s s.heap.objs.size (bindL (envOfC qual scope s.heap.objs.size f cd).kindOf (ps.zip us) fun _ => none) (cellsFrom (s.heap.objs.size + 1) scope.names []) (bindC (envOfC qual scope s.heap.objs.size f cd).kindOf (ps.zip us) fun _ => none) s1) :
    Inv (cxOf CX P w K mg base N qual scope f cd A outer s H E) [] (start N vs) H s1 := by
  have hpl : ps.length ≤ N.length := by have := congrArg List.length S.pre; rw [List.length_take] at this; omega
  obtain ⟨h1, tk, rfl, hk⟩ := x.done
  have noA : ∀ b : Addr, b ∉ (cxOf CX P w K mg base N qual scope f cd A outer s H E).ex := fun b z => absurd (show b ∈ ([] : List Addr) from z) (by simp)
  refine ⟨⟨e0.mod, S.kind, rfl, rfl, Nat.le_refl _, fun y z c h1 h2 => ?_, fun y hy => ?_, fun y c _ h => ?_, fun _ => hd, Around.frames_deeper e0.frames, .inr ⟨rfl, rfl⟩, fun b z => absurd z (noA b), e0.bs, e0.bsz, fun b _ _ => noA b, fun b z => absurd z (noA b), e0.funs, e0.frf⟩,
    rfl, e0.bare, Un.kept hk, ⟨_, x.toInCall.ns, fun i y v h1 h2 h3 => ?_⟩, fun y c h => ⟨_, x.cell y c h⟩, e0.hok.fresh (Nat.le_refl _), fun y c h => ?_, fun p hp => absurd (show p ∈ ([] : List (Addr × Obj)) from hp) (by simp), e0.hok.kept hk, ?_⟩
  · exact name_of_addr x.apart (PySem.mem_of_lookup h1) (PySem.mem_of_lookup h2)
  · have hy : scope.names.lookup y = some .cell ∨ scope.names.lookup y = some .free := hy
    rcases hy with hy | hy
    · exact cell_has hy
    · exact absurd rfl (S.nofree _ (PySem.mem_of_lookup hy))
  · exact Nat.le_of_lt (x.above y c (PySem.mem_of_lookup h))
  · have hi : i < vs.length := by
      unfold start at h2
      by_cases hi : i < vs.length
      · exact hi
      · rw [List.getElem?_append_right (by simpa using hi)] at h2
        rw [List.getElem?_replicate] at h2
        split at h2 <;> cases h2
    have ha : vs[i]? = some v := by
      unfold start at h2
      rw [List.getElem?_append_left (by simpa using hi), List.getElem?_map] at h2
      cases e : vs[i]? with
      | none => rw [e] at h2; cases h2
      | some a => rw [e] at h2; cases h2; rfl
    obtain ⟨u, hu, rv⟩ := r.get ha
    have hp : ps[i]? = some y := by
      rw [← S.pre, List.getElem?_take_of_lt (by omega)]; exact h1
    have ndP : ps.Nodup := by rw [← S.pre]; exact S.nd.sublist (List.take_sublist _ _)
    refine ⟨u, rv, ?_⟩
    rcases S.par y (List.mem_of_getElem? hp) with k | k
    · exact .inl ⟨k, bindL_get ndP hp hu k⟩
    · obtain ⟨c, e⟩ := cell_has (n := s.heap.objs.size + 1) k
      refine .inr ⟨.inl k, c, e, ?_⟩
      have q := x.cell y c e
      rw [bindC_get ndP hp hu (by show scope.names.lookup y ≠ _; rw [k]; decide)] at q
      exact q
  · exact e0.hok.fresh (Nat.le_of_lt (x.above y c (PySem.mem_of_lookup h)))
  · unfold start
    show _ = N.length
    rw [List.length_append, List.length_map, List.length_replicate]
    omega
theorem fn_of {CX : CXT} {P : Program} {w : World} {K : PySem.W.Frag} {mg : Str → Option Value} {base : Heap} {k : Nat} {f : Addr} {name qual : Str} {params : Arguments} {body : List Stmt} {scope : Scope} {dV kV doc pm cdv ct oc : Value} {an od : Option Addr}
    {osl : Array (Option Value)} {N ps : List Str} {sp : Sp} (lk : K.lookup f = some ⟨oc, od, .func (PySem.W.fnOf name qual params body scope dV kV doc pm an cdv ct), osl⟩) (hcd : PySem.W.codeIn K cdv qual = true) (S : FnScope N ps scope)
    (len : ∀ vs H Q E, sp vs H Q E → vs.length = ps.length)
    (hbody : ∀ (A : Around) (outer : List Env) (s : Shared) (H : Hp) (vs : List V) (Q : VK) (E : XK), Room k (A.deeper (envOfC qual scope s.heap.objs.size f cdv)) → sp vs H Q E →
      ∃ t, PSs (cxOf CX P w K mg base N qual scope f cdv A outer s H E) body t ∧ t { nx := fun _ H' => Q .non H', rt := Q } (start N vs) H) :
    FnOk P w K mg base CX (k + 1) f (PySem.W.fnOf name qual params body scope dV kV doc pm an cdv ct) ps sp := by
  refine ⟨len, fun A outer s H args us vs Q E hr e0 hb r hsp => ?_⟩
  have hl := len _ _ _ _ hsp
  have KX : K.In s.heap := e0.mod.kin.keeps fun b o e => (e0.bs b o e).1
  have lim : s.heap.NoLimit := e0.mod.nolimit.keeps fun b o e => (e0.bs b o e).1
  have hkind : ∀ y ∈ ps.zip us, scope.names.lookup y.1 = some .local ∨ (scope.names.lookup y.1 = some .cell ∧ ((cellsFrom (s.heap.objs.size + 1) scope.names []).lookup y.1).isSome = true) := fun ⟨n, v⟩ hy => by
    rcases S.par n (List.of_mem_zip hy).1 with q | q
    · exact .inl q
    · exact .inr ⟨q, PySem.W.cellsFrom_some _ _ _ (.inl q)⟩
  refine codeAny_call_function hr.depth (KX _ _ lk) rfl S.co S.gen rfl (PySem.W.codeRec_of KX hcd) (hb _ _ _ _ ?_)
  refine wpAny_newFunctionEnv_cells S.kind hkind fun env he s1 x => ?_
  subst he
  refine ⟨lim.keeps x.toInCall.keep, codeAny_func ?_⟩
  obtain ⟨t, ht, hq⟩ := hbody A outer s H vs Q E (hr.deeper _) hsp
  have I : Inv (cxOf CX P w K mg base N qual scope f cdv A outer s H E) [] (start N vs) H s1 := inv_start S hr.hd e0 hl r x
  refine wpAny_mono (ht [] s1 (start N vs) H _ I hq) (fun fl s' hs => ?_) fun e s' hs => hs
  have fin : ∀ {σ' : St} {H' : Hp} {v : V} {u : Value}, Inv (cxOf CX P w K mg base N qual scope f cdv A outer s H E) [] σ' H' s' → RelV v u → Q v H' → CE outer P w H s Q u s' :=
    fun {σ' H' v u} J rv q => ⟨v, H', J.os, J.bare, J.base, J.hok, rv, q⟩
  cases fl with
  | ret u =>
    obtain ⟨v, σ', H', J, rv, q⟩ := hs
    exact fin J rv q
  | next =>
    obtain ⟨σ', H', J, q⟩ := hs
    exact fin (v := V.non) (u := Value.none) J rfl q
  | brk =>
    obtain ⟨_, _, _, q⟩ := hs
    exact False.elim q
  | cont =>
    obtain ⟨_, _, _, q⟩ := hs
    exact False.elim q
end L2
namespace L2
open PySem PySem.Spec PyProof.Rows
section
variable {X : Cx} {x : Str} {p pos : Pos} {e : Expr} {es : List Expr} {t : TA} {id T : String} {r : List V → Hp → VK → Prop}
def tCB (r : List V → Hp → VK → Prop) (t : TA) : TE := fun σ H Q => t σ H fun vs H1 => r vs H1 Q
theorem pe_callB (hc : CallR X (.builtin id) r) (hg : Gl X x) (hm : X.mg x = none) (hv : bootBuiltins x = some (.builtin id)) (ha : PA X (e :: es) t) (hn : x ≠ "__name__" := by decide) (hdb : (x == ("__debug__" : Str)) = false := by decide)
    (he : starEach (e :: es) X.env = (false, eval e X.env) :: starEach es X.env := by rfl) (hpl : (backTo pos (starEach es X.env)).any (·.1) = false := by rfl) : PE X (.Call (.Name x p) (e :: es) [] pos) (tCB r t) := by
  intro pins s σ H Q I h
  refine wpAny_Call_Name_kw (ld_blt I hg hm hv ?_ hn hdb)
  exact PyProof.Rows.callWith_builtin1 (thn (ha pos pins s σ H _ I h) fun us s1 ⟨vs, H1, I1, r1, q1⟩ => hc pins s1 σ H1 vs us Q I1 r1 q1) he hpl
theorem pe_callTy (hc : CallR X (.type T) r) (hg : Gl X x) (hm : X.mg x = none) (hv : bootBuiltins x = some (.type T)) (ha : PA X (e :: es) t) (hn : x ≠ "__name__" := by decide) (hdb : (x == ("__debug__" : Str)) = false := by decide)
    (he : starEach (e :: es) X.env = (false, eval e X.env) :: starEach es X.env := by rfl) (hpl : (backTo pos (starEach es X.env)).any (·.1) = false := by rfl) : PE X (.Call (.Name x p) (e :: es) [] pos) (tCB r t) := by
  intro pins s σ H Q I h
  refine wpAny_Call_Name_kw (ld_blt I hg hm hv ?_ hn hdb)
  exact PyProof.Rows.callWith_type1 (thn (ha pos pins s σ H _ I h) fun us s1 ⟨vs, H1, I1, r1, q1⟩ => hc pins s1 σ H1 vs us Q I1 r1 q1) he hpl
end
end L2
namespace HT
open PySem PyProof.Rows
section
open PySem.SeqAt
open PySem.AutoSeq1 (wpAny_loadPart')
open PySem.MeetsSeq PySem.MeetsSeq2 PySem.MeetsSeq3
end
section
variable {prog : Program} {w : World} {A : Around} {E : Value → Shared → Prop} {s : Shared}
def sIx (n d : Nat) : Option Int → Nat
  | none => d
  | some v => if v < 0 then (v + (n : Int)).toNat else min v.toNat n
theorem sIx_none (n d : Nat) : sIx n d none = d := rfl
theorem sIx_nat (n d k : Nat) : sIx n d (some (k : Int)) = min k n := by
  show (if (k : Int) < 0 then ((k : Int) + (n : Int)).toNat else min (k : Int).toNat n) = min k n
  rw [if_neg (by omega), Int.toNat_natCast]
end
end HT
namespace L2
open PySem PySem.Spec PyProof.Rows
abbrev TO := St → Hp → (Option Int → Hp → Prop) → Prop
def PO (X : Cx) (e : Option Expr) (t : TO) : Prop :=
  ∀ (pins : List (Addr × Obj)) (s : Shared) (σ : St) (H : Hp) (Q : Option Int → Hp → Prop), Inv X pins σ H s → t σ H Q →
    wpAny (model X.prog X.w) X.A (evalPart e X.env) (fun u s' => ∃ o H', Inv X pins σ H' s' ∧ IsPart u o ∧ Q o H') X.xe s
def tNoPart : TO := fun _ H Q => Q none H
def tPart (t : TE) : TO := fun σ H Q => t σ H fun x H1 => ∃ i, x = .int i ∧ Q (some i) H1
section
variable {X : Cx} {e : Expr} {te : TE} {lo hi : Option Expr} {tl th : TO} {pos p2 : Pos}
theorem po_none : PO X none tNoPart := by
  intro pins s σ H Q I h
  rw [evalPart_none]
  exact wpAny_pure ⟨none, H, I, .none, h⟩
theorem po_some (h : PE X e te) : PO X (some e) (tPart te) := by
  intro pins s σ H Q I hw
  rw [evalPart_some]
  refine thn (h pins s σ H _ I hw) fun u s1 ⟨x, H1, I1, r1, q1⟩ => ?_
  obtain ⟨i, rfl, q⟩ := q1
  obtain ⟨t, rfl⟩ := r1
  exact ⟨some i, H1, I1, .int i t, q⟩
def SlR (X : Cx) (r : V → Option Int → Option Int → Hp → VK → Prop) : Prop :=
  ∀ (pins : List (Addr × Obj)) (s : Shared) (σ : St) (H : Hp) (x : V) (v vl vu : Value) (lo hi : Option Int) (sl : Addr) (Q : VK), Inv X pins σ H s → RelV x v → s.heap.IsSliceOf sl vl vu .none → IsPart vl lo → IsPart vu hi → r x lo hi H Q →
    ∃ T id, typeLookup (.type T) "__getitem__" = pure (some (.builtin id)) ∧ s.TypeIs v T ∧ wpAny (model X.prog X.w) X.A (getItem v (.ref sl)) (EP X pins σ Q) X.xe s
theorem SlR.or {r r' : V → Option Int → Option Int → Hp → VK → Prop} (h : SlR X r) (h' : SlR X r') : SlR X (fun x lo hi H Q => r x lo hi H Q ∨ r' x lo hi H Q) := by
  intro pins s σ H x v vl vu lo hi sl Q I rx hs pl pu q
  rcases q with q | q
  · exact h pins s σ H x v vl vu lo hi sl Q I rx hs pl pu q
  · exact h' pins s σ H x v vl vu lo hi sl Q I rx hs pl pu q
def tSl (r : V → Option Int → Option Int → Hp → VK → Prop) (te : TE) (tl th : TO) : TE := fun σ H Q => te σ H fun x H1 => tl σ H1 fun l H2 => th σ H2 fun u H3 => r x l u H3 Q
theorem pe_slice {r : V → Option Int → Option Int → Hp → VK → Prop} (hr : SlR X r) (he : PE X e te) (hl : PO X lo tl) (hu : PO X hi th) : PE X (.Subscript e (.Slice lo hi none p2) pos) (tSl r te tl th) := by
  intro pins s σ H Q I h
  refine Subscript_ (thn (he pins s σ H _ I h) fun v s1 ⟨x, H1, I1, r1, q1⟩ => ?_)
  refine wpAny_Slice (thn (hl pins s1 σ H1 _ I1 q1) fun vl s2 ⟨l, H2, I2, pl, q2⟩ => thn (hu pins s2 σ H2 _ I2 q2) fun vu s3 ⟨u, H3, I3, pu, q3⟩ => ?_)
  rw [evalPart_none]
  refine wpAny_pure ?_
  have I4 : Inv X pins σ H3 { s3 with heap := s3.heap.push { cls := .type "slice", data := .fields #[vl, vu, .none] } } := I3.kept (t' := s3.toks) fun b ob q => Heap.get?_push_of_some _ q
  obtain ⟨T, id, hT, ht, hg⟩ := hr pins { s3 with heap := s3.heap.push { cls := .type "slice", data := .fields #[vl, vu, .none] } } σ H3 x v vl vu l u s3.heap.objs.size Q I4 r1 (Heap.IsSliceOf.new ..) pl pu q3
  show wpAny (model X.prog X.w) X.A (subscriptTail e (.Slice lo hi none p2) v (.ref s3.heap.objs.size)) (EP X pins σ Q) X.xe { s3 with heap := s3.heap.push { cls := .type "slice", data := .fields #[vl, vu, .none] } }
  exact tail_any (ops := [.ref s3.heap.objs.size, v]) ht hT hg (by with_unfolding_all rfl)
def cutV (xs : List V) (lo hi : Option Int) : List V := (xs.drop (HT.sIx xs.length 0 lo)).take (HT.sIx xs.length xs.length hi - HT.sIx xs.length 0 lo)
theorem cutV_length (xs : List V) (lo hi : Option Int) : (cutV xs lo hi).length ≤ xs.length := by
  unfold cutV
  rw [List.length_take, List.length_drop]
  omega
end
end L2
namespace L2
open PySem PySem.Spec PyProof.Rows
def ixN (n : Nat) (i : Int) : Option Nat := if 0 ≤ i then (if i < n then some i.toNat else none) else if -(n : Int) ≤ i then some (i + n).toNat else none
def atI {α : Type} (xs : List α) (i : Int) : Option α := (ixN xs.length i).bind fun j => xs[j]?
theorem ixN_seq {n : Nat} {i : Int} {j : Nat} (h : ixN n i = some j) : seqIndex? i n = some j ∧ j < n ∧ -(n : Int) ≤ i ∧ i < n := by
  unfold ixN at h
  by_cases h0 : 0 ≤ i
  · rw [if_pos h0] at h
    by_cases h1 : i < n
    · rw [if_pos h1] at h
      have e : i.toNat = j := Option.some.inj h
      exact ⟨by rw [seqIndex_of h0 h1, e], by omega, by omega, h1⟩
    · rw [if_neg h1] at h; cases h
  · rw [if_neg h0] at h
    by_cases h1 : -(n : Int) ≤ i
    · rw [if_pos h1] at h
      have e : (i + n).toNat = j := Option.some.inj h
      exact ⟨by rw [seqIndex_neg (by omega) h1, e], by omega, h1, by omega⟩
    · rw [if_neg h1] at h; cases h
theorem atI_get {α : Type} {xs : List α} {i : Int} {v : α} (h : atI xs i = some v) : ∃ j, seqIndex? i xs.length = some j ∧ xs[j]? = some v ∧ j < xs.length ∧ -(xs.length : Int) ≤ i ∧ i < xs.length := by
  unfold atI at h
  cases e : ixN xs.length i with
  | none => rw [e] at h; cases h
  | some j =>
    rw [e] at h
    obtain ⟨h1, h2, h3, h4⟩ := ixN_seq e
    exact ⟨j, h1, h, h2, h3, h4⟩
def PlainIx (b : Expr) : Prop := ∀ o i, subscripted b false o i = operate [o, i] (getItem o i)
def IxR (X : Cx) (r : R2) : Prop :=
  ∀ (value slice : Expr) (pins : List (Addr × Obj)) (s : Shared) (σ : St) (H : Hp) (x y : V) (v u : Value) (Q : VK), Inv X pins σ H s → RelV x v → RelV y u → r x y H Q →
    subscripted slice false v u = operate [v, u] (getItem v u) → wpAny (model X.prog X.w) X.A (subscriptTail value slice v u) (EP X pins σ Q) X.xe s
def MtR (X : Cx) (id : String) (r : V → List V → Hp → VK → Prop) : Prop :=
  ∀ (pins : List (Addr × Obj)) (s : Shared) (σ : St) (H : Hp) (x : V) (xs : List V) (v : Value) (us : List Value) (Q : VK), Inv X pins σ H s → RelV x v → Vals xs us → r x xs H Q →
    wpAny (model X.prog X.w) X.A (call (.builtin id) (v :: us)) (EP X pins σ Q) X.xe s
section
variable {X : Cx} {a b : Expr} {ta tb : TE} {pos : Pos}
theorem IxR.or {r r' : R2} (h : IxR X r) (h' : IxR X r') : IxR X (fun x y H Q => r x y H Q ∨ r' x y H Q) := by
  intro value slice pins s σ H x y v u Q I rx ry q hs
  rcases q with q | q
  · exact h value slice pins s σ H x y v u Q I rx ry q hs
  · exact h' value slice pins s σ H x y v u Q I rx ry q hs
theorem MtR.or {id : String} {r r' : V → List V → Hp → VK → Prop} (h : MtR X id r) (h' : MtR X id r') : MtR X id (fun x xs H Q => r x xs H Q ∨ r' x xs H Q) := by
  intro pins s σ H x xs v us Q I rx rs q
  rcases q with q | q
  · exact h pins s σ H x xs v us Q I rx rs q
  · exact h' pins s σ H x xs v us Q I rx rs q
theorem pe_ix {r : R2} (hr : IxR X r) (ha : PE X a ta) (hb : PE X b tb) (hs : PlainIx b) : PE X (.Subscript a b pos) (tOp r ta tb) := by
  intro pins s σ H Q I h
  exact Subscript_ (binT ha hb I h fun v u s2 x y H2 I2 rx ry q => hr a b pins s2 σ H2 x y v u Q I2 rx ry q (hs _ _))
def rIxL (K : PySem.W.Frag) : R2 := fun x y H Q => ∃ p xs i v, x = .ref p ∧ y = .int i ∧ SqL K H p xs ∧ atI xs i = some v ∧ Q v H
def rIxT (K : PySem.W.Frag) : R2 := fun x y H Q => ∃ p xs i v, x = .ref p ∧ y = .int i ∧ SqT K H p xs ∧ atI xs i = some v ∧ Q v H
theorem ix_list : IxR X (rIxL X.K) := by
  intro value slice pins s σ H x y v u Q I rx ry h hs
  obtain ⟨p, xs, i, z, rfl, rfl, hq, he, q⟩ := h
  cases rx
  obtain ⟨t, rfl⟩ := ry
  obtain ⟨its, r, pl, hz⟩ := I.list hq
  obtain ⟨j, h1, h2, h3, h4, h5⟩ := atI_get he
  obtain ⟨w, ew, rw'⟩ := r.get h2
  have hl := r.length
  have hn := line63
  have fin : EP X pins σ Q w s := ⟨z, H, I, rw', q⟩
  by_cases h0 : 0 ≤ i
  · have hj : i.toNat = j := by
      rw [seqIndex_of h0 h5] at h1
      exact Option.some.inj h1
    exact item_listR pl.isList h0 (by omega) (by rw [hj]; simpa using ew) fin hs
  · have hj : (i + (its.toArray.size : Int)).toNat = j := by
      rw [seqIndex_neg (by omega) h4] at h1
      rw [List.size_toArray, ← hl]
      exact Option.some.inj h1
    exact subscriptTail_builtinR (x := w) pl.isList.typeIs slot_list_getitem.lookup
      (wpAny_getItem_list_neg (Q := fun r s' => r = w ∧ EP X pins σ Q r s') pl.isList (by omega) (by rw [List.size_toArray] <;> omega) (by omega) (by rw [hj]; simpa using ew) ⟨rfl, fin⟩) hs
theorem ix_tup : IxR X (rIxT X.K) := by
  intro value slice pins s σ H x y v u Q I rx ry h hs
  obtain ⟨p, xs, i, z, rfl, rfl, hq, he, q⟩ := h
  cases rx
  obtain ⟨t, rfl⟩ := ry
  obtain ⟨its, r, pl, hz⟩ := I.tuple hq
  obtain ⟨j, h1, h2, h3, h4, h5⟩ := atI_get he
  obtain ⟨w, ew, rw'⟩ := r.get h2
  have hl := r.length
  have hn := line63
  have fin : EP X pins σ Q w s := ⟨z, H, I, rw', q⟩
  exact subscriptTail_builtinR (x := w) pl.typeIs slot_tuple_getitem.lookup
    (getItem_tuple (j := j) (Q := fun r s' => r = w ∧ EP X pins σ Q r s') pl (by omega) (by omega) (by rw [List.size_toArray, ← hl]; exact h1) (by simpa using ew) ⟨rfl, fin⟩) hs
theorem mapSeq_set (its : List Value) (n j : Nat) (u : Value) : Obj.mapSeq (·.setIfInBounds j u) { cls := .type "list", data := .seq its.toArray n } = { cls := .type "list", data := .seq (its.set j u).toArray n } := by
  simp [Obj.mapSeq]
theorem Inv.lst {pins : List (Addr × Obj)} {σ : St} {H : Hp} {s : Shared} {p : Addr} {xs : List V} (I : Inv X pins σ H s) (h : H p = some (.lst xs)) :
    ∃ (its : List Value) (n : Nat), Vals xs its ∧ s.heap.get? p = some { cls := .type "list", data := .seq its.toArray n } ∧ xs.length ≤ sizeLine := by
  obtain ⟨z, its, n, r, e⟩ := I.hok p _ h
  exact ⟨its, n, r, e, z⟩
theorem Inv.lstUpd {pins : List (Addr × Obj)} {σ : St} {H : Hp} {s : Shared} {p : Addr} {xs ys : List V} {its its' : List Value} {n n' : Nat} {f : Obj → Obj} (I : Inv X pins σ H s) (h : H p = some (.lst xs))
    (ho : s.heap.get? p = some { cls := .type "list", data := .seq its.toArray n }) (hf : f { cls := .type "list", data := .seq its.toArray n } = { cls := .type "list", data := .seq its'.toArray n' }) (r : Vals ys its') (hz : ys.length ≤ sizeLine) (t : Nat) :
    Inv X pins σ (upd H p (.lst ys)) { s with heap := s.heap.update p f, toks := t } := by
  have e : (s.heap.update p f).get? p = some { cls := .type "list", data := .seq its'.toArray n' } := by
    rw [Heap.get?_update_self f ho (by rw [hf] <;> rfl), hf]
  refine I.write (x := p) (e := p) (by rw [h]; trivial) (.inl rfl) (fun b u hb q => (Heap.get?_update_other _ _ (Ne.symm hb)).trans q) ⟨_, e⟩ ?_
  exact ⟨hz, its', n', r, e⟩
def rSetL : V → V → V → Hp → (Hp → Prop) → Prop := fun o i v H Q => ∃ p xs k j, o = .ref p ∧ i = .int k ∧ H p = some (.lst xs) ∧ ixN xs.length k = some j ∧ Q (upd H p (.lst (xs.set j v)))
theorem set_list : PSet X rSetL := by
  intro pins s σ H o i v ov iv u Q I ro ri rv h
  obtain ⟨p, xs, k, j, rfl, rfl, hp, hj, q⟩ := h
  cases ro
  obtain ⟨t, rfl⟩ := ri
  obtain ⟨its, n, r, ho, hz⟩ := I.lst hp
  obtain ⟨h1, h2, h3, h4⟩ := ixN_seq hj
  have hl := r.length
  have hn := line63
  have I' : Inv X pins σ (upd H p (.lst (xs.set j v))) { s with heap := s.heap.update p (Obj.mapSeq (·.setIfInBounds j u)) } :=
    I.lstUpd hp ho (mapSeq_set its n j u) (r.set rv j) (by rw [List.length_set]; exact hz) s.toks
  by_cases h0 : 0 ≤ k
  · have hk : k.toNat = j := by
      rw [seqIndex_of h0 h4] at h1
      exact Option.some.inj h1
    exact PySem.W.ki_setAt ho h0 (by omega) (by rw [List.size_toArray, ← hl]; exact h4) (by rw [hk]; exact ⟨_, I', q⟩)
  · have hk : (k + (its.toArray.size : Int)).toNat = j := by
      rw [seqIndex_neg (by omega) h3] at h1
      rw [List.size_toArray, ← hl]
      exact Option.some.inj h1
    exact PySem.W.ki_setBack ho (by omega) (by rw [List.size_toArray, ← hl]; exact h3) (by omega) (by rw [hk]; exact ⟨_, I', q⟩)
theorem slice_bounds (lo hi : Option Int) (n : Nat) : (sliceBounds lo hi none n).1 = ((HT.sIx n 0 lo : Nat) : Int) ∧ (sliceBounds lo hi none n).2.1 = ((HT.sIx n n hi : Nat) : Int) ∧ (sliceBounds lo hi none n).2.2 = 1 := by
  refine ⟨?_, ?_, rfl⟩
  · cases lo with
    | none => simp [sliceBounds, HT.sIx]
    | some i =>
      simp only [sliceBounds, HT.sIx, Option.getD_none, show (1 : Int) > 0 by decide, if_true]
      by_cases h : i < 0
      · simp only [h, if_true] <;> omega
      · simp only [h, if_false] <;> omega
  · cases hi with
    | none => simp [sliceBounds, HT.sIx]
    | some i =>
      simp only [sliceBounds, HT.sIx, Option.getD_none, show (1 : Int) > 0 by decide, if_true]
      by_cases h : i < 0
      · simp only [h, if_true] <;> omega
      · simp only [h, if_false] <;> omega
theorem slicePick_cut (its : List Value) (lo hi : Option Int) : slicePick its.toArray lo hi none = ((its.drop (HT.sIx its.length 0 lo)).take (HT.sIx its.length its.length hi - HT.sIx its.length 0 lo)).toArray := by
  obtain ⟨h1, h2, h3⟩ := slice_bounds lo hi its.toArray.size
  unfold slicePick
  rw [h1, h2, h3]
  simp only [sliceRange_one, pick_run, List.size_toArray] <;> rfl
def rSlL (K : PySem.W.Frag) : V → Option Int → Option Int → Hp → VK → Prop := fun x lo hi H Q => ∃ a xs, x = .ref a ∧ SqL K H a xs ∧ ∀ p, H p = none → Q (.ref p) (upd H p (.lst (cutV xs lo hi)))
theorem sl_list : SlR X (rSlL X.K) := by
  intro pins s σ H x v vl vu lo hi sl Q I rx hs pl pu h
  obtain ⟨a, xs, rfl, hx, q⟩ := h
  cases rx
  obtain ⟨its, r, ht, hz⟩ := I.list hx
  have hlen := r.length
  refine ⟨"list", _, slot_list_getitem.lookup, ht.isList.typeIs, ?_⟩
  refine wpAny_getItem_list_slice ht.isList hs pl pu .none (by simp) ?_ (by rw [List.size_toArray] <;> omega)
  rw [slicePick_cut, ← hlen]
  refine ⟨.ref s.heap.objs.size, _, I.laid (t' := s.toks) (o := .lst (cutV xs lo hi)) (fun b ob q => Heap.get?_push_of_some _ q) (Nat.le_refl _) ?_, rfl, q _ (I.hok.fresh (Nat.le_refl _))⟩
  exact ⟨Nat.le_trans (cutV_length xs lo hi) hz, _, 0, (r.drop (HT.sIx xs.length 0 lo)).take (HT.sIx xs.length xs.length hi - HT.sIx xs.length 0 lo), Heap.get?_push_size _ rfl⟩
theorem call_len_seq : CallR X (.builtin "len") (fun xs H Q => ∃ p ys, xs = [.ref p] ∧ (SqL X.K H p ys ∨ SqT X.K H p ys) ∧ Q (.int ys.length) H) := by
  intro pins s σ H xs us Q I r h
  obtain ⟨p, ys, rfl, hq, q⟩ := h
  obtain ⟨u, rfl, rx⟩ := vals1 r
  cases rx
  have hn := line63
  rcases hq with hq | hq
  · obtain ⟨its, r', pl, hz⟩ := I.list hq
    have hlen := r'.length
    exact Calls.call_len_list pl.isList (by simp only [List.size_toArray] <;> omega) ⟨.int ys.length, H, I.tok _, ⟨s.toks + 1, by rw [List.size_toArray, hlen]⟩, q⟩
  · obtain ⟨its, r', pl, hz⟩ := I.tuple hq
    have hlen := r'.length
    exact len_tuple pl (by simp only [List.size_toArray] <;> omega) ⟨.int ys.length, H, I.tok _, ⟨s.toks + 1, by rw [List.size_toArray, hlen]⟩, q⟩
theorem CallR.or {f : Value} {r r' : List V → Hp → VK → Prop} (h : CallR X f r) (h' : CallR X f r') : CallR X f (fun xs H Q => r xs H Q ∨ r' xs H Q) := by
  intro pins s σ H xs us Q I rs q
  rcases q with q | q
  · exact h pins s σ H xs us Q I rs q
  · exact h' pins s σ H xs us Q I rs q
theorem call_list_of : CallR X (.type "list") (fun xs H Q => ∃ p ys, xs = [.ref p] ∧ (SqL X.K H p ys ∨ SqT X.K H p ys) ∧ ∀ l, H l = none → Q (.ref l) (upd H l (.lst ys))) := by
  intro pins s σ H xs us Q I r h
  obtain ⟨p, ys, rfl, hq, q⟩ := h
  obtain ⟨u, rfl, rx⟩ := vals1 r
  cases rx
  have fin : ∀ (its : List Value), Vals ys its → ys.length ≤ sizeLine → ∀ (h' : Heap) (c' : Nat), (∀ b o', s.heap.get? b = some o' → h'.get? b = some o') →
      h'.get? s.heap.objs.size = some { cls := .type "list", dict := none, data := .seq its.toArray c', slots := #[] } → EP X pins σ Q (.ref s.heap.objs.size) { s with heap := h' } := fun its r' hz h' c' kp e =>
    ⟨.ref s.heap.objs.size, _, I.laid (t' := s.toks) kp (Nat.le_refl _) (show ObjOk X.prog X.w _ h' _ (.lst ys) from ⟨hz, its, c', r', e⟩), rfl, q _ (I.hok.fresh (Nat.le_refl _))⟩
  rcases hq with hq | hq
  · obtain ⟨its, r', pl, hz⟩ := I.list hq
    have hlen := r'.length
    obtain ⟨o, ho, hc, n, hd⟩ := pl.isList
    exact call_list_seq p (.inl rfl) ho hc hd (fun h' c' kp e => fin its r' hz h' c' kp e) (by simp only [List.size_toArray] <;> omega)
  · obtain ⟨its, r', pl, hz⟩ := I.tuple hq
    have hlen := r'.length
    obtain ⟨o, ho, hc, n, hd⟩ := pl
    exact call_list_seq p (.inr rfl) ho hc hd (fun h' c' kp e => fin its r' hz h' c' kp e) (by simp only [List.size_toArray] <;> omega)
def tyV (K : PySem.W.Frag) (T : String) (x : V) (H : Hp) : Prop := match x with
  | .str _ => T = "str"
  | .int _ => T = "int"
  | .ref p => (T = "list" ∧ ∃ xs, SqL K H p xs) ∨ (T = "tuple" ∧ ∃ o, K.lookup p = some o ∧ o.cls = .type "tuple" ∧ o.dict = none) ∨
      (T = "dict" ∧ ((∃ kvs, H p = some (.dK kvs)) ∨ ∃ kvs, H p = some (.dT kvs))) ∨ (T = "set" ∧ ∃ S n, H p = some (.set S n))
  | _ => False
theorem tyV_is {pins : List (Addr × Obj)} {σ : St} {H : Hp} {s : Shared} {T : String} {x : V} {v : Value} (I : Inv X pins σ H s) (r : RelV x v) (ty : tyV X.K T x H) :
    s.TypeIs v T ∧ ∀ a, v = .ref a → ∃ ob, s.heap.get? a = some ob ∧ ob.dict = none := by
  cases x with
  | str z =>
    obtain ⟨t, rfl⟩ := r
    cases (show T = "str" from ty)
    exact ⟨typeIs_str s z t, fun _ e => nomatch e⟩
  | int i =>
    obtain ⟨t, rfl⟩ := r
    cases (show T = "int" from ty)
    exact ⟨typeIs_int s i t, fun _ e => nomatch e⟩
  | ref p =>
    cases r
    rcases ty with ⟨rfl, xs, hq⟩ | ⟨rfl, o, hk, hc, hd⟩ | ⟨rfl, hk⟩ | ⟨rfl, S, n, hk⟩
    · obtain ⟨its, _, pl, _⟩ := I.list hq
      refine ⟨pl.isList.typeIs, fun a e => ?_⟩
      cases e
      obtain ⟨o, n, e, c, hd, _⟩ := pl
      exact ⟨o, e, hd⟩
    · refine ⟨⟨o, I.kIn p o hk, hc⟩, fun a e => ?_⟩
      cases e
      exact ⟨o, I.kIn _ o hk, hd⟩
    · have z : ∃ o, s.heap.get? p = some o ∧ o.ExactDict := by
        rcases hk with ⟨kvs, hk⟩ | ⟨kvs, hk⟩
        · obtain ⟨_, _, _, _, o, _, _, e, ex, _⟩ := I.hok p _ hk
          exact ⟨o, e, ex⟩
        · obtain ⟨_, _, _, _, o, _, _, e, ex, _⟩ := I.hok p _ hk
          exact ⟨o, e, ex⟩
      obtain ⟨o, e, ex⟩ := z
      refine ⟨⟨o, e, ex.1⟩, fun a e2 => ?_⟩
      cases e2
      exact ⟨o, e, ex.2.1⟩
    · obtain ⟨o, _, _, _, e, ex, _⟩ := I.hok p _ hk
      refine ⟨⟨o, e, ex.1⟩, fun a e2 => ?_⟩
      cases e2
      exact ⟨o, e, ex.2.1⟩
  | _ => exact False.elim ty
def tBM (K : PySem.W.Frag) (T : String) (r : V → List V → Hp → VK → Prop) (to : TE) (t : TA) : TE := fun σ H Q => to σ H fun x H1 => tyV K T x H1 ∧ t σ H1 fun xs H2 => r x xs H2 Q
variable {o e : Expr} {es : List Expr} {to : TE} {t : TA} {name : Str} {apos cpos : Pos} {T id : String} {r : V → List V → Hp → VK → Prop}
theorem pe_bm (pa : PlainAttrs T) (slot : Slot T name id) (hty : typeOf (.builtin id) = pure (.type "method_descriptor")) (hm : MtR X id r) (ho : PE X o to) (ha : PA X (e :: es) t)
    (hbase : attributeBase o name X.env (eval o X.env) = eval o X.env := by rfl)
    (hfew : ((backTo cpos (starEach (e :: es) X.env)).all (fun x => !x.1) && (backToKw cpos (keywordEach [] X.env)).all (fun x => x.1.isSome)
      && decide ((e :: es).length + ([] : List Keyword).length + (if ([] : List Keyword).isEmpty then 0 else 1) < 30)) = true := by rfl)
    (hline : (apos.endLine == cpos.line) = true := by rfl) (hs : starEach (e :: es) X.env = (false, eval e X.env) :: starEach es X.env := by rfl) (hplain : (backTo cpos (starEach es X.env)).any (·.1) = false := by rfl) :
    PE X (.Call (.Attribute o name apos) (e :: es) [] cpos) (tBM X.K T r to t) := by
  intro pins s σ H Q I h
  refine wpAny_Call_method_late hbase hfew hline rfl (thn (ho pins s σ H _ I h) fun v s1 ⟨x, H1, I1, r1, ty, q1⟩ => ?_)
  obtain ⟨h1, h2⟩ := tyV_is I1 r1 ty
  refine ⟨T, id, pa, slot, hty, h1, h2, ?_⟩
  have hA := ha cpos pins s1 σ H1 _ I1 q1
  rw [hs] at hA ⊢
  refine Calls.callWith_builtin (by show (false || (backTo cpos (starEach es X.env)).any (·.1)) = false; rw [hplain] <;> rfl) (Calls.evalArgs_plain ?_)
  exact thn hA fun us s2 ⟨vs, H2, I2, r2, q2⟩ => hm pins s2 σ H2 x vs v us Q I2 r1 r2 q2
/- xs.append(e), list.index on a module's tuple .. are MtR facts of 06m -/
end
end L2
namespace L2
open PySem PySem.Spec PyProof.Rows
def MtM (X : Cx) (id : String) (r : V → List V → Hp → VK → Prop) : Prop :=
  ∀ (pins : List (Addr × Obj)) (s : Shared) (σ : St) (H : Hp) (x : V) (xs : List V) (v : Value) (us : List Value) (Q : VK), Inv X pins σ H s → RelV x v → Vals xs us → r x xs H Q →
    wpAny (model X.prog X.w) X.A (call (.builtin id) (v :: us)) (EP X pins σ Q) X.xe s
theorem Vals.one : ∀ {x : V} {us : List Value}, Vals [x] us → ∃ u, us = [u] ∧ RelV x u
  | _, _, .cons r .nil => ⟨_, rfl, r⟩
theorem Vals.two : ∀ {x y : V} {us : List Value}, Vals [x, y] us → ∃ u v, us = [u, v] ∧ RelV x u ∧ RelV y v
  | _, _, _, .cons r (.cons q .nil) => ⟨_, _, rfl, r, q⟩
theorem Vals.zero : ∀ {us : List Value}, Vals [] us → us = []
  | _, .nil => rfl
theorem Vals.dropLast {xs : List V} {us : List Value} (h : Vals xs us) : Vals xs.dropLast us.dropLast := by
  induction h with
  | nil => exact .nil
  | cons r t ih =>
    cases t with
    | nil => exact .nil
    | cons q t' => exact .cons r ih
theorem Vals.reverse {xs : List V} {us : List Value} (h : Vals xs us) : Vals xs.reverse us.reverse := by
  induction h with
  | nil => exact .nil
  | cons r t ih => rw [List.reverse_cons, List.reverse_cons]; exact Vals.append ih (.cons r .nil)
section
variable {X : Cx} {pins : List (Addr × Obj)} {σ : St} {H : Hp} {s : Shared} {l b : Addr} {xs ys zs : List V}
theorem Inv.lset {its its' : List Value} {n : Nat} {f : Array Value → Array Value} {t' : Nat} (I : Inv X pins σ H s) (hH : H l = some (.lst xs))
    (e : s.heap.get? l = some { cls := .type "list", data := .seq its.toArray n }) (hf : f its.toArray = its'.toArray) (hv : Vals ys its') (hz : ys.length ≤ sizeLine) :
    Inv X pins σ (upd H l (.lst ys)) { s with heap := s.heap.update l (Obj.mapSeq f), toks := t' } := by
  have q := PySem.IsL.update e f
  rw [hf] at q
  refine I.write (x := l) (e := l) (by rw [hH]; exact trivial) (.inl rfl) (fun b' u hb hu => (Heap.get?_update_other s.heap (Obj.mapSeq f) (Ne.symm hb)).trans hu) ⟨_, q⟩ ?_
  exact ⟨hz, its', _, hv, q⟩
theorem Inv.lnew {its : List Value} {t' : Nat} (I : Inv X pins σ H s) (hv : Vals ys its) (hz : ys.length ≤ sizeLine) :
    Inv X pins σ (upd H s.heap.objs.size (.lst ys)) { s with heap := s.heap.push { cls := .type "list", data := .seq its.toArray }, toks := t' } :=
  I.laid (fun _ _ q => Heap.get?_push_of_some _ q) (Nat.le_refl _) ⟨hz, its, 0, hv, Heap.get?_push_size _ rfl⟩
theorem Inv.fresh (I : Inv X pins σ H s) : H s.heap.objs.size = none := I.hok.fresh (Nat.le_refl _)
theorem Inv.lstM (I : Inv X pins σ H s) (hH : H l = some (.lst xs)) : xs.length ≤ sizeLine ∧ ∃ (its : List Value) (n : Nat), Vals xs its ∧ xs.length = its.length ∧ s.heap.get? l = some { cls := .type "list", data := .seq its.toArray n } := by
  obtain ⟨z, its, n, r, e⟩ := I.hok l _ hH
  exact ⟨z, its, n, r, r.length, e⟩
end
section
variable {X : Cx}
def rAppend : V → List V → Hp → VK → Prop := fun x vs H Q => ∃ l xs y, x = .ref l ∧ vs = [y] ∧ H l = some (.lst xs) ∧ xs.length < sizeLine ∧ Q .non (upd H l (.lst (xs ++ [y])))
theorem mt_append : MtM X "list.append" rAppend := by
  intro pins s σ H x vs v us Q I rx rv h
  obtain ⟨l, xs, y, rfl, rfl, hH, hz, q⟩ := h
  cases rx
  obtain ⟨u, rfl, ru⟩ := rv.one
  obtain ⟨z, its, n, r, hl, e⟩ := I.lstM hH
  refine call_meets F.slot_list_append ⟨_, e, rfl⟩ F.entry_list_append (F.args_list_append_2 _ _) (PySem.list_append l its.toArray n u (by rw [List.size_toArray]; omega)) ⟨e, ?_⟩
  refine ⟨.non, _, I.lset (its' := its ++ [u]) hH e (by simp) (r.append (.cons ru .nil)) ?_, rfl, q⟩
  rw [List.length_append, List.length_singleton]
  omega
end
section
variable {prog : Program} {w : World} {A : Around} {E : Value → Shared → Prop} {s : Shared}
end
section
variable {X : Cx}
end
end L2
namespace L2
open PySem PySem.Spec PyProof.Rows
theorem Vals.ints : ∀ {ns : List Int} {us : List Value}, Vals (ns.map V.int) us → IntsAre us ns
  | [], us, h => by
    rw [List.map_nil] at h
    cases h
    exact IntsAre.nil
  | n :: ns, us, h => by
    rw [List.map_cons] at h
    cases h with
    | cons r t =>
      obtain ⟨k, rfl⟩ := r
      exact IntsAre.cons n k (Vals.ints t)
theorem vals_of_ints : ∀ {us : List Value} {ns : List Int}, IntsAre us ns → Vals (ns.map V.int) us
  | _, _, .nil => by rw [List.map_nil]; exact Paired.nil
  | _, _, .cons n t h => by rw [List.map_cons]; exact Paired.cons (show RelV (V.int n) (Value.int n t) from ⟨t, rfl⟩) (vals_of_ints h)
theorem Vals.strs : ∀ {xs : List Str} {us : List Value}, Vals (xs.map V.str) us → StrsAre us xs
  | [], us, h => by
    rw [List.map_nil] at h
    cases h
    exact StrsAre.nil
  | x :: xs, us, h => by
    rw [List.map_cons] at h
    cases h with
    | cons r t =>
      obtain ⟨k, rfl⟩ := r
      exact StrsAre.cons x k (Vals.strs t)
theorem Vals.bls : ∀ {bs : List Bool} {us : List Value}, Vals (bs.map V.bl) us → us = bs.map Value.bool
  | [], us, h => by
    rw [List.map_nil] at h
    cases h
    rfl
  | b :: bs, us, h => by
    rw [List.map_cons] at h
    cases h with
    | cons r t =>
      cases r
      rw [Vals.bls t, List.map_cons]
theorem Vals.ref1 {a : Addr} {us : List Value} (r : Vals [V.ref a] us) : us = [Value.ref a] := by
  cases r with
  | cons r t =>
    cases t
    cases r
    rfl
section
variable {prog : Program} {w : World} {A : Around} {E : Value → Shared → Prop} {s : Shared} {l : Addr} {its : List Value} {ns : List Int} {Q : Value → Shared → Prop}
theorem sum_raw (hh : A.handled = none) (hl : s.heap.IsList l its.toArray) (hi : IntsAre its ns)
    (h : ∀ h' tk t', (∀ b o, s.heap.get? b = some o → h'.get? b = some o) → Q (.int ns.sum t') { s with heap := h', toks := tk }) : wpAny (model prog w) A (call (.builtin "sum") [.ref l]) Q E s := by
  obtain ⟨xs, e⟩ := hi.allInts.items
  have hn : numsOf (intItems xs).toList = ns := by rw [← e]; exact hi.numsOf
  rw [nums_intItems] at hn
  rw [e] at hl
  refine PySem.sum_intListG hh hl fun h' tk t' hk => ?_
  have := h h' tk t' hk
  rw [preSum_eq, List.take_of_length_le (by simp), hn]; exact this
end
section
variable {X : Cx}
def rSum (K : PySem.W.Frag) : List V → Hp → VK → Prop := fun vs H Q => ∃ (a : Addr) (ns : List Int), vs = [V.ref a] ∧ SqL K H a (ns.map V.int) ∧ Q (.int ns.sum) H
theorem cr_sum (hc : X.calm = true) : CallR X (.builtin "sum") (rSum X.K) := by
  intro pins s σ H vs us Q I r h
  obtain ⟨a, ns, rfl, hs, q⟩ := h
  obtain ⟨its, rv, hl, _⟩ := I.list hs
  rw [Vals.ref1 r]
  exact sum_raw (I.ok.hd hc) hl.isList rv.ints fun h' tk t' hk => ⟨.int _, H, I.kept hk, ⟨_, rfl⟩, q⟩
end
section
variable {X : Cx}
end
section
variable {X : Cx}
end
theorem iter_any {prog : Program} {w : World} {A : Around} {E : Value → Shared → Prop} {s : Shared} {l : Addr} {items : Array Value} {Q : Value → Shared → Prop} (hl : s.heap.IsList l items)
    (h : ∀ s₂ : Shared, s₂ = { s with heap := s.heap.push { cls := .type "list_iterator", data := .fields #[.ref l, .int 0 0] } } →
      (s₂.heap.IsListIter s.heap.objs.size l 0 ∧ s₂.heap.IsList l items) → l ≠ s.heap.objs.size → Q (.ref s.heap.objs.size) s₂) : wpAny (model prog w) A (pyIter (.ref l)) Q E s := by
  have hlt : l < s.heap.objs.size := by obtain ⟨_, e, _⟩ := hl; exact Heap.lt_size e
  exact wpAny_pyIter_list hl (h _ rfl ⟨⟨_, Heap.get?_push_size _ rfl, rfl, rfl⟩, hl.push _⟩ (Nat.ne_of_lt hlt))
theorem truth_bools {prog : Program} {w : World} {A : Around} {bs : List Bool} {its : List Value} (e : its = bs.map Value.bool) :
    TruthOf prog w A (fun i v => its.toArray[i]? = some v) (fun i => bs.getD i false) := fun i v s Q E hv hq => by
  have hv' : its[i]? = some v := by simpa using hv
  rw [e, List.getElem?_map] at hv'
  obtain ⟨b, hb, rfl⟩ := Option.map_eq_some_iff.mp hv'
  have hg : bs.getD i false = b := by rw [List.getD_eq_getElem?_getD, hb] <;> rfl
  have hq' : Q (bs.getD i false) s := hq
  rw [hg] at hq'
  exact wpAny_truthy_bool hq'
theorem all_range : ∀ bs : List Bool, (List.range bs.length).all (fun i => bs.getD i false) = bs.all id
  | [] => rfl
  | b :: bs => by
    rw [List.length_cons, List.range_succ_eq_map, List.all_cons, List.all_map, List.all_cons, ← all_range bs]
    all_goals rfl
section
variable {X : Cx}
def rAll (K : PySem.W.Frag) : List V → Hp → VK → Prop := fun vs H Q => ∃ (a : Addr) (bs : List Bool), vs = [V.ref a] ∧ SqL K H a (bs.map V.bl) ∧ Q (.bl (bs.all id)) H
theorem cr_all (hc : X.calm = true) : CallR X (.builtin "all") (rAll X.K) := by
  intro pins s σ H vs us Q I r h
  obtain ⟨a, bs, rfl, hs, q⟩ := h
  obtain ⟨its, rv, hl, _⟩ := I.list hs
  rw [Vals.ref1 r]
  have hb := rv.bls
  refine call_all_walk (iter_any hl.isList fun s₂ e2 st hne => ?_)
  subst e2
  refine ⟨_, _, _, _, _, _, _, rfl, Walks.list (A := X.A.in1) (I.ok.hd hc) _ a hne its.toArray, st, truth_bools hb, fun h' tk hk => ?_⟩
  refine ⟨.bl _, H, I.kept fun b o eo => hk b o (fun hmem => ?_) (Heap.get?_push_of_some _ eo), ?_, q⟩
  · rcases List.mem_cons.mp hmem with e1 | hmem
    · exact absurd (e1 ▸ Heap.lt_size eo) (Nat.lt_irrefl _)
    · cases hmem
  · show Value.bool _ = Value.bool _
    rw [← all_range, hb, List.size_toArray, List.length_map]
end
def dicT (g : List (Int × Int)) : List (List Key × V) := g.map fun p => ([.inl p.1, .inl p.2], .bl true)
def dicD (g : List (Int × Int)) : List (PyData × PyData) := g.map fun p => (.tuple [.int p.1, .int p.2], .bool true)
def mkS (ks : List Str) (ds : List PyData) : List (PyData × PyData) := (.none, .none) :: List.zipWith (fun k d => (.str k, d)) ks ds
def kvS (ks : List Str) (vs : List V) : List (Key × V) := List.zipWith (fun k v => (.inr k, v)) ks vs
mutual
inductive Dp (K : PySem.W.Frag) (H : Hp) : V → PyData → Prop
  | non : Dp K H .non .none
  | bl (b : Bool) : Dp K H (.bl b) (.bool b)
  | int (i : Int) : Dp K H (.int i) (.int i)
  | str (x : Str) : Dp K H (.str x) (.str x)
  | lst {a : Addr} {xs : List V} {ds : List PyData} : SqL K H a xs → DpAll K H xs ds → Dp K H (.ref a) (.list ds)
  | tup {a : Addr} {xs : List V} {ds : List PyData} : SqT K H a xs → DpAll K H xs ds → Dp K H (.ref a) (.tuple ds)
  | dic {a : Addr} {g : List (Int × Int)} : H a = some (.dT (dicT g)) → Dp K H (.ref a) (.dict (dicD g))
  | dis {a : Addr} {ks : List Str} {vs : List V} {ds : List PyData} : Rd H a (.dK (kvS ks vs)) → ks.length = vs.length → DpAll K H vs ds → Dp K H (.ref a) (.dict (mkS ks ds))
inductive DpAll (K : PySem.W.Frag) (H : Hp) : List V → List PyData → Prop
  | nil : DpAll K H [] []
  | cons {v : V} {vs : List V} {d : PyData} {ds : List PyData} : Dp K H v d → DpAll K H vs ds → DpAll K H (v :: vs) (d :: ds)
end
section
variable {X : Cx} {pins : List (Addr × Obj)} {σ : St} {H : Hp} {s : Shared}
mutual
theorem Dp.reads (I : Inv X pins σ H s) : ∀ (d : PyData) (v : V) (u : Value), d.canLay0 = true → Dp X.K H v d → RelV v u → ∃ as, Reads s.heap u d as
  | .none, _, _, _, h, r => by
    cases h
    cases r
    exact ⟨_, Reads.none⟩
  | .bool b, _, _, _, h, r => by
    cases h
    cases r
    exact ⟨_, Reads.bool b⟩
  | .int i, _, _, _, h, r => by
    cases h
    obtain ⟨t, rfl⟩ := r
    exact ⟨_, Reads.int i t⟩
  | .str x, _, _, _, h, r => by
    cases h
    obtain ⟨t, rfl⟩ := r
    exact ⟨_, Reads.str x t⟩
  | .list ds, _, _, hcl, h, r => by
    cases h with
    | lst hs ha =>
      cases r
      obtain ⟨its, rv, ⟨o, n, ho, hc, _, hd⟩, _⟩ := I.list hs
      obtain ⟨as, hr⟩ := Dp.readsAll I ds _ its (by simpa [PyData.canLay0] using hcl) ha rv
      exact ⟨_, Reads.list ho hc hd hr⟩
  | .tuple ds, _, _, hcl, h, r => by
    cases h with
    | tup hs ha =>
      cases r
      obtain ⟨its, rv, ⟨o, ho, hc, n, hd⟩, _⟩ := I.tuple hs
      obtain ⟨as, hr⟩ := Dp.readsAll I ds _ its (by simpa [PyData.canLay0] using hcl) ha rv
      exact ⟨_, Reads.tuple ho hc hd hr⟩
  | .dict _, _, _, hc, _, _ => by simp [PyData.canLay0] at hc
theorem Dp.readsAll (I : Inv X pins σ H s) : ∀ (ds : List PyData) (vs : List V) (us : List Value), PyData.canLayAll0 ds = true → DpAll X.K H vs ds → Vals vs us → ∃ as, ReadsAll s.heap us ds as
  | [], _, _, _, h, r => by
    cases h
    cases r
    exact ⟨_, ReadsAll.nil⟩
  | d :: ds, _, _, hc, h, r => by
    have hc : d.canLay0 = true ∧ PyData.canLayAll0 ds = true := by simpa [PyData.canLayAll0] using hc
    cases h with
    | cons h1 h2 =>
      cases r with
      | cons r1 r2 =>
        obtain ⟨as, q1⟩ := Dp.reads I d _ _ hc.1 h1 r1
        obtain ⟨bs, q2⟩ := Dp.readsAll I ds _ _ hc.2 h2 r2
        exact ⟨_, ReadsAll.cons q1 q2⟩
end
end
section
variable {X : Cx}
def rEqD (K : PySem.W.Frag) : R2 := fun x y H Q => ∃ d e, Dp K H x d ∧ Dp K H y e ∧ SeqAt.shaped d = true ∧ SeqAt.shaped e = true ∧ Q (.bl (PyData.eqv d e)) H
def rNeD (K : PySem.W.Frag) : R2 := fun x y H Q => ∃ d e, Dp K H x d ∧ Dp K H y e ∧ SeqAt.shaped d = true ∧ SeqAt.shaped e = true ∧ Q (.bl (!PyData.eqv d e)) H
theorem op_eqD (hu : X.A.units + 64 < cLine) : OpR X (compareOp .Eq) (rEqD X.K) := by
  intro pins s σ H x y v u Q I rx ry h
  obtain ⟨d, e, hd, he, sd, se, q⟩ := h
  obtain ⟨as, r1⟩ := Dp.reads I d x v (SeqAt.canLay_of_shaped sd) hd rx
  obtain ⟨bs, r2⟩ := Dp.reads I e y u (SeqAt.canLay_of_shaped se) he ry
  exact SeqAt.compareEq_shaped r1 r2 sd se hu ⟨.bl _, H, I, rfl, q⟩
theorem op_neD (hu : X.A.units + 64 < cLine) : OpR X (compareOp .NotEq) (rNeD X.K) := by
  intro pins s σ H x y v u Q I rx ry h
  obtain ⟨d, e, hd, he, sd, se, q⟩ := h
  obtain ⟨as, r1⟩ := Dp.reads I d x v (SeqAt.canLay_of_shaped sd) hd rx
  obtain ⟨bs, r2⟩ := Dp.reads I e y u (SeqAt.canLay_of_shaped se) he ry
  exact SeqAt.compareNe_shaped r1 r2 sd se hu ⟨.bl _, H, I, rfl, q⟩
end
end L2
namespace L2
open PySem PySem.Spec PyProof.Rows
abbrev CellAt (h : Heap) (c : Addr) (v : Option Value) : Prop := h.IsCell c v
def relS (scope sc : Scope) : Scope :=
  { scope with names := scope.names.map fun (n, k) => if (k == .free && sc.kind == .function && sc.names.lookup n == some .cell) then (n, .cell) else (n, k) }
def cloFrom (cells : List (Str × Addr)) : List (Str × NameKind) → List (Str × Addr) → List (Str × Addr)
  | [], acc => acc
  | (n, k) :: r, acc => if k == .free then cloFrom cells r ((n, (cells.lookup n).getD 0) :: acc) else cloFrom cells r acc
theorem closure_loop (env : Env) (f : Str × NameKind → List (Str × Addr) → Sem (ForInStep (List (Str × Addr))))
    (hf : ∀ n k c, f (n, k) c = if k == .free then (do let a ← cellOf env n; pure (.yield ((n, a) :: c))) else pure (.yield c)) :
    ∀ (names : List (Str × NameKind)) (acc : List (Str × Addr)), (∀ y ∈ names, y.2 = .free → ∃ c, env.cells.lookup y.1 = some c) → forIn names acc f = pure (cloFrom env.cells names acc)
  | [], acc, _ => by rw [List.forIn_nil]; rfl
  | (n, k) :: r, acc, h => by
    rw [List.forIn_cons, hf]
    have ih := fun acc => closure_loop env f hf r acc fun y hy => h y (List.mem_cons_of_mem _ hy)
    unfold cloFrom
    by_cases hk : (k == NameKind.free) = true
    · rw [if_pos hk, if_pos hk]
      obtain ⟨c, hc⟩ := h (n, k) List.mem_cons_self (by simpa using hk)
      have e : cellOf env n = pure c := by unfold cellOf; rw [hc]
      rw [e]
      have e2 : (env.cells.lookup n).getD 0 = c := by rw [hc]; rfl
      rw [e2]
      exact ih _
    · rw [if_neg hk, if_neg hk]
      exact ih _
theorem closure_ok {scope : Scope} {env : Env} (h : ∀ y ∈ scope.names, y.2 = .free → ∃ c, env.cells.lookup y.1 = some c) : closureFor scope env = pure (cloFrom env.cells scope.names []) := by
  simp only [closureFor]
  rw [closure_loop env _ (fun n k c => rfl) scope.names [] h]
  rfl
theorem mem_lookup {α : Type} : ∀ {l : List (Str × α)} {n : Str} {c : α}, (n, c) ∈ l → ∃ c', l.lookup n = some c'
  | (k, v) :: r, n, c, h => by
    rw [List.lookup_cons]
    cases hb : n == k with
    | true => exact ⟨_, rfl⟩
    | false =>
      rcases List.mem_cons.mp h with e | h
      · cases e; simp at hb
      · exact mem_lookup h
theorem cloFrom_mem {cells : List (Str × Addr)} : ∀ {names : List (Str × NameKind)} {acc : List (Str × Addr)} {n : Str} {c : Addr}, (n, c) ∈ cloFrom cells names acc → (n, c) ∈ acc ∨ ((n, .free) ∈ names ∧ c = (cells.lookup n).getD 0)
  | [], _, _, _, h => .inl h
  | (m, k) :: r, acc, n, c, h => by
    unfold cloFrom at h
    split at h
    · rename_i hk
      have hk : k = .free := by simpa using hk
      rcases cloFrom_mem h with h | ⟨h1, h2⟩
      · rcases List.mem_cons.mp h with e | h
        · cases e; exact .inr ⟨hk ▸ List.mem_cons_self, rfl⟩
        · exact .inl h
      · exact .inr ⟨List.mem_cons_of_mem _ h1, h2⟩
    · rcases cloFrom_mem h with h | ⟨h1, h2⟩
      · exact .inl h
      · exact .inr ⟨List.mem_cons_of_mem _ h1, h2⟩
theorem cloFrom_acc {cells : List (Str × Addr)} : ∀ {names : List (Str × NameKind)} {acc : List (Str × Addr)} {p : Str × Addr}, p ∈ acc → p ∈ cloFrom cells names acc
  | [], _, _, h => h
  | (m, k) :: r, acc, p, h => by
    unfold cloFrom
    split
    · exact cloFrom_acc (List.mem_cons_of_mem _ h)
    · exact cloFrom_acc h
theorem cloFrom_has {cells : List (Str × Addr)} : ∀ {names : List (Str × NameKind)} {acc : List (Str × Addr)} {n : Str}, (n, .free) ∈ names → (n, (cells.lookup n).getD 0) ∈ cloFrom cells names acc
  | (m, k) :: r, acc, n, h => by
    unfold cloFrom
    rcases List.mem_cons.mp h with e | h
    · cases e
      exact cloFrom_acc List.mem_cons_self
    · split
      · exact cloFrom_has h
      · exact cloFrom_has h
theorem cells_mem : ∀ {names : List (Str × NameKind)} {h : Heap} {acc : List (Str × Addr)} {x : Str} {c : Addr}, (x, c) ∈ cellsFrom h.objs.size names acc →
    (x, c) ∈ acc ∨ ((x, .cell) ∈ names ∧ h.objs.size ≤ c ∧ CellAt (pushCells h names) c none)
  | [], _, _, _, _, h => .inl h
  | (n, k) :: r, h, acc, x, c, hm => by
    unfold cellsFrom at hm
    unfold pushCells
    split at hm
    · rename_i hk
      rw [if_pos hk]
      have hk : k = .cell := by simpa using hk
      rw [← Heap.size_push h { cls := .type "cell", data := .cell none }] at hm
      rcases cells_mem hm with hm | ⟨h1, h2, h3⟩
      · rcases List.mem_cons.mp hm with e | hm
        · cases e
          exact .inr ⟨hk ▸ List.mem_cons_self, Nat.le_refl _, _, pushCells_keeps r _ _ _ (Heap.get?_push_size _ rfl), rfl⟩
        · exact .inl hm
      · rw [Heap.size_push] at h2
        exact .inr ⟨List.mem_cons_of_mem _ h1, Nat.le_of_succ_le h2, h3⟩
    · rename_i hk
      rw [if_neg hk]
      rcases cells_mem hm with hm | ⟨h1, h2, h3⟩
      · exact .inl hm
      · exact .inr ⟨List.mem_cons_of_mem _ h1, h2, h3⟩
theorem cells_acc : ∀ {names : List (Str × NameKind)} {n : Nat} {acc : List (Str × Addr)} {p : Str × Addr}, p ∈ acc → p ∈ cellsFrom n names acc
  | [], _, _, _, h => h
  | (m, k) :: r, n, acc, p, h => by
    unfold cellsFrom
    split
    · exact cells_acc (List.mem_cons_of_mem _ h)
    · exact cells_acc h
theorem cells_has : ∀ {names : List (Str × NameKind)} {n : Nat} {acc : List (Str × Addr)} {x : Str}, (x, .cell) ∈ names → ∃ c, (x, c) ∈ cellsFrom n names acc
  | (m, k) :: r, n, acc, x, h => by
    unfold cellsFrom
    rcases List.mem_cons.mp h with e | h
    · cases e
      exact ⟨n, cells_acc List.mem_cons_self⟩
    · split
      · exact cells_has h
      · exact cells_has h
theorem cells_inj : ∀ {names : List (Str × NameKind)} {h : Heap} {acc : List (Str × Addr)} {x y : Str} {c : Addr}, (∀ p ∈ acc, p.2 < h.objs.size) → (∀ x y c, (x, c) ∈ acc → (y, c) ∈ acc → x = y) →
    (x, c) ∈ cellsFrom h.objs.size names acc → (y, c) ∈ cellsFrom h.objs.size names acc → x = y
  | [], _, _, _, _, _, _, hi, h1, h2 => hi _ _ _ h1 h2
  | (n, k) :: r, h, acc, x, y, c, hl, hi, h1, h2 => by
    unfold cellsFrom at h1 h2
    split at h1
    · rename_i hk
      rw [if_pos hk] at h2
      rw [← Heap.size_push h { cls := .type "cell", data := .cell none }] at h1 h2
      refine cells_inj (h := h.push _) (fun p hp => ?_) (fun x y c a b => ?_) h1 h2
      · rw [Heap.size_push]
        rcases List.mem_cons.mp hp with rfl | hp
        · exact Nat.lt_succ_self _
        · exact Nat.lt_succ_of_lt (hl p hp)
      · rcases List.mem_cons.mp a with e | a <;> rcases List.mem_cons.mp b with e' | b
        · cases e; cases e'; rfl
        · cases e; exact absurd (hl _ b) (Nat.lt_irrefl _)
        · cases e'; exact absurd (hl _ a) (Nat.lt_irrefl _)
        · exact hi _ _ _ a b
    · rename_i hk
      rw [if_neg hk] at h2
      exact cells_inj hl hi h1 h2
theorem newEnv_comp {M : Model} {A : Around} {E : Value → Shared → Prop} {s : Shared} {scope : Scope} {globals : Addr} {closure : List (Str × Addr)} {qual : Str} {func : Option Addr} {code : Value} {around : Env} {builtins : Addr} {Q : Env → Shared → Prop}
    (h : Q (newEnv scope s.heap.objs.size globals (cellsFrom (s.heap.objs.size + 1) scope.names closure) qual func code (some around) builtins)
      { s with heap := pushCells (s.heap.push { cls := .type "dict", data := .dict #[] }) scope.names }) :
    wpAny M A (newFunctionEnv scope globals closure [] qual func code (some around) builtins) Q E s := by
  simp only [newFunctionEnv, Option.isSome_some, if_true]
  refine wpAny_bind (wpAny_alloc ?_)
  refine wpAny_bind (wpAny_layCells _ (fun n k c => rfl) scope.names closure _ _ ?_)
  rw [show ({ s with heap := s.heap.push { cls := .type "dict", data := .dict #[] } } : Shared).heap.objs.size = s.heap.objs.size + 1 from Heap.size_push ..]
  rw [List.forIn_nil]
  exact wpAny_bind (wpAny_pure (wpAny_pure h))
theorem lookup_relS {sc : Scope} : ∀ {names : List (Str × NameKind)} {x : Str} {k : NameKind},
    (names.map fun (n, k) => if (k == NameKind.free && sc.kind == .function && sc.names.lookup n == some .cell) then (n, NameKind.cell) else (n, k)).lookup x = some k →
    ∃ k', names.lookup x = some k' ∧ (k = k' ∨ (k' = .free ∧ k = .cell))
  | [], _, _, h => by simp at h
  | (n, k₀) :: r, x, k, h => by
    have ih := @lookup_relS sc r x k
    have h' : List.lookup x ((if (k₀ == NameKind.free && sc.kind == .function && sc.names.lookup n == some .cell) = true then (n, NameKind.cell) else (n, k₀)) :: (r.map _)) = some k := h
    cases hx : x == n with
    | true =>
      simp only [List.lookup_cons, hx]
      by_cases hc : (k₀ == NameKind.free && sc.kind == .function && sc.names.lookup n == some .cell) = true
      · rw [if_pos hc] at h'
        simp only [List.lookup_cons, hx] at h'
        cases h'
        simp only [Bool.and_eq_true, beq_iff_eq] at hc
        exact ⟨k₀, rfl, .inr ⟨hc.1.1, rfl⟩⟩
      · rw [if_neg hc] at h'
        simp only [List.lookup_cons, hx] at h'
        cases h'
        exact ⟨_, rfl, .inl rfl⟩
    | false =>
      simp only [List.lookup_cons, hx]
      by_cases hc : (k₀ == NameKind.free && sc.kind == .function && sc.names.lookup n == some .cell) = true
      · rw [if_pos hc] at h'
        simp only [List.lookup_cons, hx] at h'
        exact ih h'
      · rw [if_neg hc] at h'
        simp only [List.lookup_cons, hx] at h'
        exact ih h'
structure BlkOk (N : List Str) (sc scope : Scope) (own : List (Str × Nat)) : Prop where
  kind : scope.kind = .function
  uniq : ∀ y ∈ scope.names, scope.names.lookup y.1 = some y.2
  ix : ∀ p ∈ own, N[p.2]? = some p.1
  free : ∀ y ∈ scope.names, y.2 = .free → sc.names.lookup y.1 = some .cell ∨ sc.names.lookup y.1 = some .free
  own : ∀ y ∈ scope.names, y.2 = .local ∨ y.2 = .cell → y.1 ∈ own.map (·.1) ∨ y.1 ∉ N
def wipe (σ : St) : List Nat → St
  | [] => σ
  | v :: vs => (wipe σ vs).set v none
theorem wipe_length (σ : St) : ∀ vs : List Nat, (wipe σ vs).length = σ.length
  | [] => rfl
  | v :: vs => by unfold wipe; rw [List.length_set, wipe_length σ vs]
theorem wipe_some {σ : St} {i : Nat} {x : V} : ∀ {vs : List Nat}, (wipe σ vs)[i]? = some (some x) → σ[i]? = some (some x) ∧ i ∉ vs
  | [], h => ⟨h, by simp⟩
  | v :: vs, h => by
    unfold wipe at h
    by_cases hi : v = i
    · subst hi
      by_cases hv : v < (wipe σ vs).length
      · rw [List.getElem?_set_self hv] at h; cases h
      · rw [List.getElem?_eq_none (by simpa using hv)] at h; cases h
    · rw [List.getElem?_set_ne hi] at h
      obtain ⟨h1, h2⟩ := wipe_some h
      exact ⟨h1, by simp only [List.mem_cons, not_or]; exact ⟨fun e => hi e.symm, h2⟩⟩
abbrev Cx.blk (X : Cx) (s : Shared) (H : Hp) (scope : Scope) (cenv : Env) (fp : List Addr) : Cx := { X with s_0 := s, H_0 := H, env := cenv, outer := X.stack, ex := fp, fn := fun x => scope.names.lookup x == some .cell, pn := [], xe := fun _ _ => False }
section
variable {X : Cx} {pins : List (Addr × Obj)} {σ : St} {H : Hp} {s : Shared}
theorem block_start {scope : Scope} {own : List (Str × Nat)} {fp : List Addr} (I : Inv X pins σ H s) (ok : BlkOk X.N X.env.scope scope own) (hN : X.N.Nodup) (hfp : ∀ b ∈ fp, FpOk X pins H b ∧ b < s.heap.objs.size) :
    Inv (X.blk s H scope (compEnvC scope (cellsFrom (s.heap.objs.size + 1) scope.names (cloFrom X.env.cells scope.names [])) s.heap.objs.size X.env) fp) [] (wipe σ (own.map (·.2))) H { s with heap := pushCells (s.heap.push { cls := .type "dict", data := .dict #[] }) scope.names } := by
  have hfree : ∀ y ∈ scope.names, y.2 = .free → ∃ c, X.env.cells.lookup y.1 = some c := fun y hy e => by
    rcases ok.free y hy e with k | k
    · exact I.ok.has _ (.inl k)
    · exact I.ok.has _ (.inr k)
  generalize hcenv : compEnvC scope (cellsFrom (s.heap.objs.size + 1) scope.names (cloFrom X.env.cells scope.names [])) s.heap.objs.size X.env = cenv
  have kp : ∀ b o, s.heap.get? b = some o → (pushCells (s.heap.push { cls := .type "dict", data := .dict #[] }) scope.names).get? b = some o := fun b o e => pushCells_keeps _ _ _ _ (Heap.get?_push_of_some _ e)
  have hL : cenv.locals = s.heap.objs.size := by rw [← hcenv]; rfl
  have hcl : cenv.cells = cellsFrom (s.heap.objs.size + 1) scope.names (cloFrom X.env.cells scope.names []) := by rw [← hcenv]; rfl
  have hsc : cenv.scope = relS scope X.env.scope := by rw [← hcenv]; rfl
  rw [← Heap.size_push s.heap { cls := .type "dict", data := .dict #[] }] at hcl
  have cm : ∀ {y c}, (y, c) ∈ cloFrom X.env.cells scope.names [] → X.env.cells.lookup y = some c ∧ c < s.heap.objs.size := fun {y c} hm => by
    rcases cloFrom_mem hm with hm | ⟨h1, rfl⟩
    · cases hm
    · obtain ⟨c, hc⟩ := hfree _ h1 rfl
      rw [hc]
      obtain ⟨w, z⟩ := I.cell _ _ hc
      exact ⟨rfl, z.lt⟩
  have mem : ∀ {y c}, cenv.cells.lookup y = some c → (X.env.cells.lookup y = some c ∧ c < s.heap.objs.size) ∨ (s.heap.objs.size + 1 ≤ c ∧ CellAt (pushCells (s.heap.push { cls := .type "dict", data := .dict #[] }) scope.names) c none) := fun {y c} e => by
    rw [hcl] at e
    rcases cells_mem (PySem.mem_of_lookup e) with hm | ⟨_, h2, h3⟩
    · exact .inl (cm hm)
    · rw [Heap.size_push] at h2; exact .inr ⟨h2, h3⟩
  have look : ∀ {y}, scope.names.lookup y = some .free → ∃ c, cenv.cells.lookup y = some c ∧ X.env.cells.lookup y = some c := fun {y} hl => by
    have hy : (y, NameKind.free) ∈ scope.names := PySem.mem_of_lookup hl
    obtain ⟨c', e'⟩ := mem_lookup (cells_acc (names := scope.names) (n := (s.heap.push { cls := .type "dict", data := .dict #[] }).objs.size) (cloFrom_has (cells := X.env.cells) (acc := []) hy))
    rw [← hcl] at e'
    refine ⟨c', e', ?_⟩
    rw [hcl] at e'
    rcases cells_mem (PySem.mem_of_lookup e') with hm | ⟨h1, _, _⟩
    · exact (cm hm).1
    · have := ok.uniq _ h1
      rw [hl] at this; cases this
  have okB : (X.blk s H scope cenv fp).Ok := by
    refine ⟨I.ok.mod, by show cenv.scope.kind = _; rw [hsc]; exact ok.kind, by show cenv.globals = _; rw [← hcenv]; exact I.ok.glob, by show cenv.builtins = _; rw [← hcenv]; exact I.ok.blt, by show s.heap.objs.size ≤ cenv.locals; rw [hL]; exact Nat.le_refl _,
      fun y z c e1 e2 => ?_, fun y hy => ?_, fun y c z e => ?_, I.ok.hd, I.ok.frames, .inl rfl, fun b hb => ⟨?_, fun y c e z => ?_⟩, I.bs, Nat.le_trans I.ok.bsz I.sz, fun b o e hb => ?_, fun b hb z => ?_, I.stack, I.stkFree⟩
    · have e1 : cenv.cells.lookup y = some c := e1
      have e2 : cenv.cells.lookup z = some c := e2
      rw [hcl] at e1 e2
      refine cells_inj (fun p hp => ?_) (fun y z c a b => I.ok.inj y z c (cm a).1 (cm b).1) (PySem.mem_of_lookup e1) (PySem.mem_of_lookup e2)
      rw [Heap.size_push]
      exact Nat.lt_succ_of_lt (cm (y := p.1) (c := p.2) hp).2
    · show ∃ c, cenv.cells.lookup y = some c
      have key : ∀ k, cenv.kindOf y = some k → (k = .cell ∨ k = .free) → ∃ c, cenv.cells.lookup y = some c := fun k hk hk' => by
        unfold Env.kindOf at hk
        rw [hsc] at hk
        obtain ⟨k', e, r⟩ := lookup_relS hk
        have : k' = .cell ∨ k' = .free := by
          rcases r with rfl | ⟨rfl, _⟩
          · exact hk'
          · exact .inr rfl
        rcases this with rfl | rfl
        · obtain ⟨c, hm⟩ := cells_has (n := (s.heap.push { cls := .type "dict", data := .dict #[] }).objs.size) (acc := cloFrom X.env.cells scope.names []) (PySem.mem_of_lookup e)
          obtain ⟨c', e'⟩ := mem_lookup hm
          exact ⟨c', by rw [hcl]; exact e'⟩
        · obtain ⟨c, h1, _⟩ := look e
          exact ⟨c, h1⟩
      rcases hy with hy | hy
      · exact key _ hy (.inl rfl)
      · exact key _ hy (.inr rfl)
    · have z : (scope.names.lookup y == some NameKind.cell) = true := z
      have z : scope.names.lookup y = some .cell := by simpa using z
      have e : cenv.cells.lookup y = some c := e
      rw [hcl] at e
      rcases cells_mem (PySem.mem_of_lookup e) with hm | ⟨_, h2, _⟩
      · rcases cloFrom_mem hm with hm | ⟨h1, _⟩
        · cases hm
        · have q := ok.uniq _ h1
          rw [z] at q; cases q
      · rw [Heap.size_push] at h2
        exact Nat.le_of_succ_le h2
    · show b ≠ cenv.locals
      rw [hL]; exact Nat.ne_of_lt (hfp b hb).2
    · have e : cenv.cells.lookup y = some c := e
      rcases mem e with ⟨h1, _⟩ | ⟨h1, _⟩
      · exact (hfp b hb).1.2.2.2.2.1 y c h1 z
      · have h2 : s.heap.objs.size + 1 ≤ b := by rw [← z]; exact h1
        exact absurd (Nat.lt_of_lt_of_le (hfp b hb).2 (Nat.le_of_succ_le h2)) (Nat.lt_irrefl _)
    · rcases (hfp b hb).1.2.2.2.1 with z | z
      · exact I.ok.noex b o e z
      · exact absurd (Nat.lt_of_lt_of_le (Heap.lt_size e) (Nat.le_trans I.ok.bsz z)) (Nat.lt_irrefl _)
    · rcases List.mem_cons.mp (I.stkSub b z) with z | z
      · exact (hfp b hb).1.2.1 z
      · exact (hfp b hb).1.2.2.1 z
  refine ⟨okB, rfl, I.bare, Un.kept kp, ⟨fun _ => none, ?_, fun i y av e1 e2 e3 => ?_⟩, fun y c e => ?_, ?_, fun y c e => ?_, fun p hp => ?_, I.hok.kept kp, by rw [wipe_length]; exact I.len⟩
  · show Heap.Ns _ cenv.locals _
    rw [hL]
    exact Heap.Ns.keeps (Heap.Ns.new ..) fun b o e => pushCells_keeps _ _ _ _ e
  · obtain ⟨e2, hne⟩ := wipe_some e2
    have hfr : scope.names.lookup y = some .free ∧ (cenv.kindOf y = some .cell ∨ cenv.kindOf y = some .free) := by
      have key : ∀ k, cenv.scope.names.lookup y = some k → k = .local ∨ k = .cell ∨ k = .free → scope.names.lookup y = some .free ∧ (cenv.kindOf y = some .cell ∨ cenv.kindOf y = some .free) := fun k hk hk' => by
        have hk0 := hk
        rw [hsc] at hk
        obtain ⟨k', e, r⟩ := lookup_relS hk
        have no : ¬ (k' = .local ∨ k' = .cell) := fun hh => by
          rcases ok.own _ (PySem.mem_of_lookup e) hh with e' | e'
          · obtain ⟨p, hp, hpy⟩ := List.mem_map.mp e'
            have e3 := ok.ix p hp
            have : p.1 = y := hpy
            rw [this] at e3
            exact hne (List.mem_map.mpr ⟨p, hp, nodup_ix hN e3 e1⟩)
          · exact e' (List.mem_of_getElem? e1)
        rcases r with rfl | ⟨rfl, rfl⟩
        · rcases hk' with rfl | rfl | rfl
          · exact absurd (.inl rfl) no
          · exact absurd (.inr rfl) no
          · exact ⟨e, .inr hk0⟩
        · exact ⟨e, .inl hk0⟩
      have e3 : Vis cenv.scope y := e3
      rcases e3 with e3 | e3 | e3
      · exact key _ e3 (.inl rfl)
      · exact key _ e3 (.inr (.inl rfl))
      · exact key _ e3 (.inr (.inr rfl))
    obtain ⟨m, hn, hl⟩ := I.loc
    have hvis : Vis X.env.scope y := (ok.free _ (PySem.mem_of_lookup hfr.1) rfl).elim (fun k => .inr (.inl k)) (fun k => .inr (.inr k))
    obtain ⟨w, r, q⟩ := hl i y av e1 e2 hvis
    refine ⟨w, r, .inr ⟨hfr.2, ?_⟩⟩
    obtain ⟨c, h1, h2⟩ := look hfr.1
    rcases q with ⟨k, _⟩ | ⟨_, c', e', z⟩
    · have k : X.env.scope.names.lookup y = some .local := k
      rcases ok.free _ (PySem.mem_of_lookup hfr.1) rfl with k' | k' <;> rw [show X.env.scope.names.lookup y = _ from k'] at k <;> cases k
    · rw [h2] at e'; cases e'
      exact ⟨c, h1, z.keeps kp⟩
  · have e : cenv.cells.lookup y = some c := e
    rcases mem e with ⟨h1, _⟩ | ⟨_, z⟩
    · obtain ⟨w, z⟩ := I.cell y c h1
      exact ⟨w, z.keeps kp⟩
    · exact ⟨_, z⟩
  · show H cenv.locals = none
    rw [hL]; exact I.hok.fresh (Nat.le_refl _)
  · have e : cenv.cells.lookup y = some c := e
    rcases mem e with ⟨h1, _⟩ | ⟨h1, _⟩
    · exact I.freeC y c h1
    · exact I.hok.fresh (Nat.le_of_succ_le h1)
  · exact absurd (show p ∈ ([] : List (Addr × Obj)) ++ [] from hp) (by simp)
theorem app_ok {E : Value → Shared → Prop} {D : Addr} {xs : List V} {y : V} {v : Value} {Q : Value → Shared → Prop} (I : Inv X pins σ H s) (hD : H D = some (.lst xs)) (hz : xs.length < sizeLine) (r : RelV y v)
    (h : ∀ s', Inv X pins σ (upd H D (.lst (xs ++ [y]))) s' → Q .none s') : wpAny (model X.prog X.w) X.A (call (.builtin "list.append") [.ref D, v]) Q E s := by
  obtain ⟨hz', its, n, ri, e⟩ := I.hok D _ hD
  have hl := ri.length
  refine append_at (hsz := by rw [List.size_toArray]; omega) e fun h' sb ho' => ?_
  refine h { s with heap := h' } (I.write (t' := s.toks) (by rw [hD]; trivial) (.inl rfl) (fun b u hb q => (sb.2 b hb).trans q) ⟨_, ho'⟩ ⟨by rw [List.length_append]; exact hz, its ++ [v], n + 1, ri.append (.cons r .nil), ?_⟩)
  rw [ho']
  simp
def PTs (X : Cx) (ifs : List Expr) (t : TT) : Prop :=
  ∀ (pins : List (Addr × Obj)) (s : Shared) (σ : St) (H : Hp) (Q : Bool → Hp → Prop), Inv X pins σ H s → t σ H Q →
    wpAny (model X.prog X.w) X.A (forIn ifs true fun c r => if r = true then do let ok ← isTrue c X.env (eval c X.env); pure (ForInStep.yield ok) else pure (ForInStep.yield r)) (TP X pins σ Q) X.xe s
def tYes : TT := fun _ H Q => Q true H
theorem pts_nil : PTs X [] tYes := fun _ _ _ H _ I h => wpAny_tests_nil ⟨H, I, h⟩
theorem pts_one {c : Expr} {t : TT} (h : PT X c t) : PTs X [c] t := fun pins s σ H Q I hw => wpAny_tests_one (h pins s σ H Q I hw)
end
theorem thnF {α : Type} {t : Sem α} {Q Q' : α → Shared → Prop} {M : Model} {A : Around} {E : Value → Shared → Prop} {s : Shared} (h : wpAny M A t Q (fun _ _ => False) s) (hQ : ∀ a s, Q a s → Q' a s) : wpAny M A t Q' E s := wpAny_mono h hQ fun _ _ z => False.elim z
theorem compLoop_any {prog : Program} {w : World} {A : Around} {R : Result → Shared → Prop} {s : Shared} {elt target iter : Expr} {ifs : List Expr} {scope : Scope} {pos : Pos} {it acc : Value} {env : Env} (I : Nat → Shared → Prop)
    (turn : ∀ n s, I n s → wpAny (model prog w) A (pyNext it) (fun r s₁ => match r with
      | none => R (.ok .next) s₁
      | some v => wpAny (model prog w) A (letOwnedTupleGo target it v) (fun _ s₁' => wpAny (model prog w) A (assign target env v) (fun _ s₂ =>
          wpAny (model prog w) A (forIn ifs true fun c r => if r = true then do let ok ← isTrue c env (eval c env); pure (ForInStep.yield ok) else pure (ForInStep.yield r)) (fun ok s₃ =>
            if ok = true then wpAny (model prog w) A (eval elt env) (fun x s₄ =>
              wpAny (model prog w) A (call (.builtin "list.append") [acc, x]) (fun _ s₅ => ∃ m, m < n ∧ I m s₅) (notedBy (model prog w) A env fun e s' => R (.error e) s') s₄) (notedBy (model prog w) A env fun e s' => R (.error e) s') s₃
            else ∃ m, m < n ∧ I m s₃) (notedBy (model prog w) A env fun e s' => R (.error e) s') s₂) (notedBy (model prog w) A env fun e s' => R (.error e) s') s₁') (notedBy (model prog w) A env fun e s' => R (.error e) s') s₁) (notedBy (model prog w) A env fun e s' => R (.error e) s') s)
    (n : Nat) (h : I n s) :
    codeAny (model prog w) A (.compLoop (.ListComp elt [⟨target, iter, ifs, 0⟩] scope pos) 0 it acc env) R s := by
  refine codeAny_loop rfl I (fun n s hI => ?_) n h
  show wpAny _ A ((compTurn (.ListComp elt [⟨target, iter, ifs, 0⟩] scope pos) 0 it acc env).onRaise (fun x => do noteFrame x env; theTreesLotGoes x)) _ _ s
  refine wpAny_noted ?_
  rw [compTurn_list]
  refine wpAny_bind (wpAny_standAt (wpAny_bind (wpAny_mono (turn n s hI) (fun r s₁ h₁ => ?_) fun _ _ h' => h')))
  cases r with
  | none => exact wpAny_pure h₁
  | some v =>
    refine wpAny_bind (wpAny_mono h₁ (fun _ s₁' h₁' => ?_) fun _ _ h' => h')
    refine wpAny_bind (wpAny_mono h₁' (fun _ s₂ h₂ => wpAny_bind (wpAny_mono h₂ (fun ok s₃ h₃ => ?_) fun _ _ h' => h')) fun _ _ h' => h')
    cases ok with
    | false => exact wpAny_pure ⟨rfl, h₃⟩
    | true =>
      exact wpAny_bind (wpAny_bind (wpAny_mono h₃ (fun x s₄ h₄ => wpAny_bind (wpAny_mono h₄ (fun _ s₅ h₅ => wpAny_pure (wpAny_pure ⟨rfl, h₅⟩)) fun _ _ h' => h')) fun _ _ h' => h'))
section
variable {X : Cx}
def tLc (wi : TI) (g : TG) (tt : TT) (te : TE) (vs : List Nat) : TE := fun σ H Q => wi σ H fun J H1 => ∀ D, H1 D = none → ∃ W : Nat → Nat → Hp → Prop, (∃ m, W 0 m (upd H1 D (.lst []))) ∧ ∀ i m H, W i m H →
  (J.stop i H ∧ Q (.ref D) H) ∨ (J.go i H ∧ ∃ Nx : Hp → Prop, (∀ H', Nx H' → ∃ m', m' < m ∧ W (i + 1) m' H') ∧ ∀ x H', J.yld i H x H' → g x (wipe σ vs) H' fun σ2 H2 => wipe σ2 vs = wipe σ vs ∧ tt σ2 H2 fun b H3 =>
    if b = true then te σ2 H3 fun y H4 => ∃ acc, H4 D = some (.lst acc) ∧ acc.length < sizeLine ∧ Nx (upd H4 D (.lst (acc ++ [y]))) else Nx H3)
theorem lc_core {pins : List (Addr × Obj)} {s : Shared} {σ : St} {H : Hp} {Q : VK} {elt tg iter : Expr} {ifs : List Expr} {scope : Scope} {own : List (Str × Nat)} {pos pos' : Pos} {wi : TI} {g : TG} {tt : TT} {te : TE} {use : Option (Value → Sem Unit)} {Qf : Value → Shared → Prop}
    (hc : X.calm = true) (hN : X.N.Nodup) (I : Inv X pins σ H s) (hi : PI X tg iter wi) (ok : BlkOk X.N X.env.scope scope own)
    (hg : ∀ (s : Shared) (H : Hp) (C : Addr) (cl : List (Str × Addr)) (fp : List Addr), PG (X.blk s H scope (compEnvC scope cl C X.env) fp) tg g) (ht : ∀ (s : Shared) (H : Hp) (C : Addr) (cl : List (Str × Addr)) (fp : List Addr), PTs (X.blk s H scope (compEnvC scope cl C X.env) fp) ifs tt)
    (he : ∀ (s : Shared) (H : Hp) (C : Addr) (cl : List (Str × Addr)) (fp : List Addr), PE (X.blk s H scope (compEnvC scope cl C X.env) fp) elt te) (hs : ∀ x, foldedSetIterable iter X.env x = pure x)
    (h : tLc wi g tt te (own.map (·.2)) σ H Q)
    (hRR : ∀ D C s' m H', Inv X pins σ H' s' → Q (.ref D) H' → s'.heap.Ns C m → FpOk X pins H' C → compPost (model X.prog X.w) X.A X.xe use Qf (.ref D) C (.ok .next) s') :
    wpAny (model X.prog X.w) X.A (comprehension (.ListComp elt [⟨tg, iter, ifs, 0⟩] scope pos) scope X.env pos' (newList []) false (eval iter X.env) use) Qf X.xe s := by
  have hfree : ∀ y ∈ scope.names, y.2 = .free → ∃ c, X.env.cells.lookup y.1 = some c := fun y hy e => by
    rcases ok.free y hy e with k | k
    · exact I.ok.has _ (.inl k)
    · exact I.ok.has _ (.inr k)
  refine wpAny_comprehension_free (use := use) rfl hs (closure_ok hfree) ok.kind (fun y hy e => by rw [ok.uniq y hy, e])
    (thn (hi pins s σ H _ I h) fun xv s1 hx => thn hx fun itv s2 h2 => ?_)
  obtain ⟨it, fp, tn, J, H2, e, I2, T, st2, f2, q⟩ := h2
  subst e
  refine wpAny_newObj_type (newEnv_comp ?_) (by show 0 ≤ sizeLine; decide)
  generalize hD : s2.heap.objs.size = D
  have hDn : H2 D = none := I2.hok.fresh (Nat.le_of_eq hD)
  obtain ⟨W, ⟨m0, w0⟩, turn⟩ := q D hDn
  generalize hs3 : ({ s2 with heap := s2.heap.push { cls := .type "list", data := .seq ([] : List Value).toArray } } : Shared) = s3
  have I3 : Inv X pins σ (upd H2 D (.lst [])) s3 := by
    rw [← hs3]
    refine I2.laid (t' := s2.toks) (fun b o e => Heap.get?_push_of_some _ e) (Nat.le_of_eq hD) ⟨Nat.zero_le _, [], 0, .nil, ?_⟩
    rw [← hD]
    exact Heap.get?_push_size _ rfl
  have h3 : s3.heap = s2.heap.push { cls := .type "list", data := .seq ([] : List Value).toArray } := by rw [← hs3]
  have sz : ∀ b ∈ fp, b < s2.heap.objs.size := fun b hb => by
    obtain ⟨o, e, _⟩ := T.obj _ _ st2 b hb
    exact Heap.lt_size e
  have f3 : ∀ b ∈ fp, FpOk X pins (upd H2 D (.lst [])) b ∧ b < s3.heap.objs.size := fun b hb => by
    have hlt := sz b hb
    refine ⟨⟨?_, (f2 b hb).2⟩, by rw [h3, Heap.size_push]; exact Nat.lt_succ_of_lt hlt⟩
    rw [upd_ne (by rw [← hD]; exact Nat.ne_of_lt hlt)]
    exact (f2 b hb).1
  have st3 : tn 0 s3.heap := T.keep _ _ _ st2 fun b _ o e => by rw [h3]; exact Heap.get?_push_of_some _ e
  have I4 := block_start I3 ok hN f3
  have pg := hg s3 (upd H2 D (.lst [])) s3.heap.objs.size (cellsFrom (s3.heap.objs.size + 1) scope.names (cloFrom X.env.cells scope.names [])) fp
  have pt := ht s3 (upd H2 D (.lst [])) s3.heap.objs.size (cellsFrom (s3.heap.objs.size + 1) scope.names (cloFrom X.env.cells scope.names [])) fp
  have pe := he s3 (upd H2 D (.lst [])) s3.heap.objs.size (cellsFrom (s3.heap.objs.size + 1) scope.names (cloFrom X.env.cells scope.names [])) fp
  show codeAny _ _ (.compStart (.ListComp elt [⟨tg, iter, ifs, 0⟩] scope pos) 0 (.ref it) (.ref D) (compEnvC scope (cellsFrom (s3.heap.objs.size + 1) scope.names (cloFrom X.env.cells scope.names [])) s3.heap.objs.size X.env)) (compPost (model X.prog X.w) X.A X.xe use Qf (.ref D) s3.heap.objs.size) { s3 with heap := pushCells (s3.heap.push { cls := .type "dict", data := .dict #[] }) scope.names }
  have nfp : ∀ b ∈ fp, (upd H2 D (.lst [])) b = none := fun b hb => (f3 b hb).1.1
  generalize hce : compEnvC scope (cellsFrom (s3.heap.objs.size + 1) scope.names (cloFrom X.env.cells scope.names [])) s3.heap.objs.size X.env = ce at I4 pg pt pe ⊢
  have cL : ce.locals = s3.heap.objs.size := by subst hce; rfl
  generalize hH3 : upd H2 D (.lst []) = H3 at I3 I4 pg pt pe w0 nfp f3
  generalize hs4 : ({ s3 with heap := pushCells (s3.heap.push { cls := .type "dict", data := .dict #[] }) scope.names } : Shared) = s4 at I4 ⊢
  have st4 : tn 0 s4.heap := T.keep _ _ _ st3 fun b _ o e => by rw [← hs4]; exact pushCells_keeps _ _ _ _ (Heap.get?_push_of_some _ e)
  have stat : ∀ {σ' : St} {H' : Hp} {s' : Shared}, Inv (X.blk s3 H3 scope ce fp) [] σ' H' s' → (∀ b ∈ fp, H' b = none) → ∀ b ∈ fp, FpOk (X.blk s3 H3 scope ce fp) [] H' b := fun {σ' H' s'} I' hn b hb =>
    ⟨hn b hb, (I'.ok.exf b hb).1, I'.ok.exfs b hb, .inl hb, fun x c e => (I'.ok.exf b hb).2 x c e, fun p hp => absurd (show p ∈ ([] : List (Addr × Obj)) ++ [] from hp) (by simp)⟩
  have loop : codeAny (model X.prog X.w) X.A (.compLoop (.ListComp elt [⟨tg, iter, ifs, 0⟩] scope pos) 0 (.ref it) (.ref D) ce) (compPost (model X.prog X.w) X.A X.xe use Qf (.ref D) s3.heap.objs.size) s4 := by
    refine compLoop_any (fun n s' => ∃ i H', Inv (X.blk s3 H3 scope ce fp) [] (wipe σ (own.map (·.2))) H' s' ∧ tn i s'.heap ∧ (∀ b ∈ fp, H' b = none) ∧ W i n H') ?_ m0 ⟨0, H3, I4, st4, nfp, w0⟩
    rintro n s5 ⟨i, H5, I5, st5, n5, w5⟩
    rcases turn i n H5 w5 with ⟨stop, qq⟩ | ⟨go, Nx, hNx, step⟩
    · have td := T.done (X.blk s3 H3 scope ce fp) rfl rfl rfl hc i [] s5 _ H5 (fun _ _ => False) I5 (stat I5 n5) st5 stop
      refine thnF td fun r s6 ⟨hr, I6⟩ => ?_
      subst hr
      have I7 : Inv X pins σ H5 s6 := I3.call' (ch := fp) I6.os I6.base I6.hok I6.bare fun b hb => ⟨(f3 b hb).1.2.2.2.1, (f3 b hb).1.2.1, (f3 b hb).1.2.2.2.2.1, (f3 b hb).1.2.2.2.2.2⟩
      have nC : H5 s3.heap.objs.size = none := by
        have z : H5 ce.locals = none := I6.free
        rw [cL] at z
        exact z
      obtain ⟨m, hn, _⟩ := I6.loc
      have hn : s6.heap.Ns ce.locals m := hn
      rw [cL] at hn
      exact hRR D s3.heap.objs.size s6 m H5 I7 qq hn (I3.fpOk (Nat.le_refl _) nC)
    · have ti := T.item (X.blk s3 H3 scope ce fp) rfl rfl rfl hc i [] s5 _ H5 (fun _ _ => False) I5 (stat I5 n5) st5 go
      refine thnF ti fun r s6 ⟨u, hr, h6⟩ => ?_
      subst hr
      refine thnF h6 fun _ s7 ⟨x, H7, I7, r7, y7, st7, n7⟩ => ?_
      have I7' := I7.pinned (stat I7 n7) (T.obj _ _ st7)
      refine thnF (pg _ s7 _ H7 x u _ I7' r7 (step x H7 y7)) fun _ s8 ⟨σ8, H8, I8, hw8, q8⟩ => ?_
      refine thnF (pt _ s8 σ8 H8 _ I8 q8) fun b s9 ⟨H9, I9, q9⟩ => ?_
      have fin : ∀ {s' : Shared} {H' : Hp}, Inv (X.blk s3 H3 scope ce fp) ([] ++ pinsAt fp s7.heap) σ8 H' s' → Nx H' → ∃ m, m < n ∧ ∃ i H', Inv (X.blk s3 H3 scope ce fp) [] (wipe σ (own.map (·.2))) H' s' ∧ tn i s'.heap ∧ (∀ b ∈ fp, H' b = none) ∧ W i m H' := fun {s' H'} I' nx => by
        obtain ⟨m', hm, w'⟩ := hNx H' nx
        have pin' : ∀ b ∈ fp, ∀ o, s7.heap.get? b = some o → s'.heap.get? b = some o ∧ H' b = none := fun b hb o e =>
          let z := I'.pin (b, o) (List.mem_append_right _ (List.mem_append_right _ (mem_pinsAt hb e)))
          ⟨z.1, z.2.1⟩
        have hl : (wipe σ (own.map (·.2))).length = σ8.length := by rw [← hw8, wipe_length]
        refine ⟨m', hm, i + 1, H', (I'.unpinned (pins := [])).weak hl (fun j v e => ?_), T.keep _ _ _ st7 fun b hb o e => (pin' b hb o e).1, fun b hb => ?_, w'⟩
        · rw [← hw8] at e
          exact (wipe_some e).1
        · obtain ⟨o, e, _⟩ := T.obj _ _ st7 b hb
          exact (pin' b hb o e).2
      cases b with
      | false =>
        simp only [Bool.false_eq_true, if_false] at q9 ⊢
        exact fin I9 q9
      | true =>
        simp only [if_true] at q9 ⊢
        refine thnF (pe _ s9 σ8 H9 _ I9 q9) fun z s10 ⟨yv, H10, I10, r10, acc, hD10, hz10, nx⟩ => ?_
        exact app_ok (X := X.blk s3 H3 scope ce fp) I10 hD10 hz10 r10 fun s11 I11 => fin I11 nx
  exact codeAny_compStart_list loop (T.self X.A 0 _ _ _ st4 loop)
theorem pe_lc {elt tg iter : Expr} {ifs : List Expr} {scope : Scope} {own : List (Str × Nat)} {pos : Pos} {wi : TI} {g : TG} {tt : TT} {te : TE} (hc : X.calm = true) (hN : X.N.Nodup) (hi : PI X tg iter wi) (ok : BlkOk X.N X.env.scope scope own)
    (hg : ∀ (s : Shared) (H : Hp) (C : Addr) (cl : List (Str × Addr)) (fp : List Addr), PG (X.blk s H scope (compEnvC scope cl C X.env) fp) tg g) (ht : ∀ (s : Shared) (H : Hp) (C : Addr) (cl : List (Str × Addr)) (fp : List Addr), PTs (X.blk s H scope (compEnvC scope cl C X.env) fp) ifs tt)
    (he : ∀ (s : Shared) (H : Hp) (C : Addr) (cl : List (Str × Addr)) (fp : List Addr), PE (X.blk s H scope (compEnvC scope cl C X.env) fp) elt te) (hs : ∀ x, foldedSetIterable iter X.env x = pure x := by intro _; rfl) :
    PE X (.ListComp elt [⟨tg, iter, ifs, 0⟩] scope pos) (tLc wi g tt te (own.map (·.2))) := by
  intro pins s σ H Q I h
  rw [eval_ListComp]
  refine lc_core hc hN I hi ok hg ht he hs h fun D C s' m H' I' q hn f => ⟨m, hn, fun h'' sb => ?_⟩
  obtain ⟨f0, f1, f2, f3, f4, f5⟩ := f
  exact ⟨.ref D, H', I'.turned (t' := s'.toks) (fun b o hb e => (sb.2 b hb).trans e) f0 f1 f3 f4 f5, rfl, q⟩
end
def blkC (N : List Str) (sc scope : Scope) (own : List (Str × Nat)) : Bool :=
  (match scope.kind with | .function => true | _ => false) && (scope.names.all fun y => decide (scope.names.lookup y.1 = some y.2)) && (own.all fun p => decide (N[p.2]? = some p.1)) &&
    (scope.names.all fun y => match y.2 with
      | .free => (match sc.names.lookup y.1 with | some .cell => true | some .free => true | _ => false)
      | .local => decide (y.1 ∈ own.map (·.1)) || decide (y.1 ∉ N)
      | .cell => decide (y.1 ∈ own.map (·.1)) || decide (y.1 ∉ N)
      | _ => true)
theorem blkOk_by {N : List Str} {sc scope : Scope} {own : List (Str × Nat)} (h : blkC N sc scope own = true) : BlkOk N sc scope own := by
  unfold blkC at h
  simp only [Bool.and_eq_true, List.all_eq_true, decide_eq_true_eq] at h
  obtain ⟨⟨⟨h1, h2⟩, h3⟩, h4⟩ := h
  refine ⟨?_, h2, h3, fun y hy e => ?_, fun y hy e => ?_⟩
  · split at h1
    · assumption
    · cases h1
  · have q := h4 y hy
    simp only [e] at q
    split at q <;> first | exact .inl (by assumption) | exact .inr (by assumption) | cases q
  · have q := h4 y hy
    rcases e with e | e <;> (simp only [e, Bool.or_eq_true, decide_eq_true_eq] at q; exact q)
end L2
namespace L2
open PySem PySem.Spec PyProof.Rows
section
variable {prog : Program} {w : World} {A : Around} {R : Result → Shared → Prop} {s : Shared} {elt t0 i0 t1 i1 : Expr} {ifs0 ifs1 : List Expr} {scope : Scope} {pos : Pos} {it acc : Value} {env : Env}
end
section
variable {X : Cx}
end
end L2
namespace L2
open PySem PySem.Spec PyProof.Rows
section
variable {κ : Type} [DecidableEq κ]
def valV (kvs : List (κ × V)) (k : κ) : Option V := (kvs.find? fun kv => decide (kv.1 = k)).map (·.2)
def putK (kvs : List (κ × V)) (k : κ) (v : V) : List (κ × V) :=
  if (kvs.any fun kv => decide (kv.1 = k)) = true then kvs.map (fun kv => if kv.1 = k then (kv.1, v) else kv) else kvs ++ [(k, v)]
def dropK (kvs : List (κ × V)) (k : κ) : List (κ × V) := kvs.filter fun kv => decide (kv.1 ≠ k)
theorem valV_nil {k : κ} : valV ([] : List (κ × V)) k = none := rfl
theorem valV_pos {p : κ × V} {r : List (κ × V)} {k : κ} (e : p.1 = k) : valV (p :: r) k = some p.2 := by simp [valV, List.find?_cons, e]
theorem valV_neg {p : κ × V} {r : List (κ × V)} {k : κ} (e : ¬ p.1 = k) : valV (p :: r) k = valV r k := by simp [valV, List.find?_cons, e]
theorem valV_any (k : κ) : ∀ kvs : List (κ × V), (kvs.any fun kv => decide (kv.1 = k)) = (valV kvs k).isSome
  | [] => rfl
  | p :: r => by
    rw [List.any_cons]
    by_cases e : p.1 = k
    · simp only [valV_pos e, decide_eq_true e, Bool.true_or, Option.isSome_some]
    · rw [valV_neg e, decide_eq_false e, Bool.false_or]; exact valV_any k r
theorem valV_map (k j : κ) (y : V) : ∀ kvs : List (κ × V), valV (kvs.map fun kv => if kv.1 = k then (kv.1, y) else kv) j = (valV kvs j).map fun x => if j = k then y else x
  | [] => rfl
  | p :: r => by
    have ih := valV_map k j y r
    rw [List.map_cons]
    by_cases h : p.1 = k
    · rw [if_pos h]
      by_cases e : p.1 = j
      · rw [valV_pos (p := (p.1, y)) e, valV_pos e, Option.map_some, if_pos (e.symm.trans h)]
      · rw [valV_neg (p := (p.1, y)) e, valV_neg e, ih]
    · rw [if_neg h]
      by_cases e : p.1 = j
      · rw [valV_pos (p := p) e, valV_pos e, Option.map_some, if_neg (fun z => h (e.trans z))]
      · rw [valV_neg (p := p) e, valV_neg e, ih]
theorem valV_snoc (k j : κ) (y : V) : ∀ kvs : List (κ × V), valV kvs k = none → valV (kvs ++ [(k, y)]) j = if j = k then some y else valV kvs j
  | [], _ => by
    by_cases e : k = j
    · rw [if_pos e.symm]; exact valV_pos (p := (k, y)) e
    · rw [if_neg (fun z => e z.symm)]; exact valV_neg (p := (k, y)) e
  | p :: r, hn => by
    rw [List.cons_append]
    have hk : ¬ p.1 = k := fun z => by rw [valV_pos z] at hn; cases hn
    rw [valV_neg hk] at hn
    have ih := valV_snoc k j y r hn
    by_cases e : p.1 = j
    · rw [valV_pos e, valV_pos e, if_neg (fun z => hk (e.trans z))]
    · rw [valV_neg e, valV_neg e, ih]
theorem valV_put (kvs : List (κ × V)) (k j : κ) (y : V) : valV (putK kvs k y) j = if j = k then some y else valV kvs j := by
  unfold putK
  by_cases a : (kvs.any fun kv => decide (kv.1 = k)) = true
  · rw [if_pos a, valV_map]
    rw [valV_any] at a
    by_cases e : j = k
    · obtain ⟨x, hx⟩ := Option.isSome_iff_exists.mp a
      rw [if_pos e, e, hx, Option.map_some, if_pos rfl]
    · rw [if_neg e]
      cases valV kvs j with
      | none => rfl
      | some x => rw [Option.map_some, if_neg e]
  · rw [if_neg a]
    refine valV_snoc k j y kvs ?_
    rw [valV_any] at a
    cases q : valV kvs k with
    | none => rfl
    | some x => rw [q] at a; exact (a rfl).elim
theorem RelO.isSome_eq {o : Option V} {u : Option Value} (r : RelO o u) : o.isSome = u.isSome := by
  cases o with
  | none => cases u with
    | none => rfl
    | some _ => exact (show False from r).elim
  | some _ => cases u with
    | none => exact (show False from r).elim
    | some _ => rfl
theorem RelO.getD {o : Option V} {u : Option Value} {d : V} {d' : Value} (r : RelO o u) (rd : RelV d d') : RelV (o.getD d) (u.getD d') := by
  cases o with
  | none => cases u with
    | none => exact rd
    | some _ => exact (show False from r).elim
  | some _ => cases u with
    | none => exact (show False from r).elim
    | some _ => exact r
theorem KV.val {kvs : List (κ × V)} {vs : List (κ × Value)} (r : KV kvs vs) (k : κ) : RelO (valV kvs k) (valueAt vs k) := by
  unfold KV at r
  induction r with
  | nil => exact True.intro
  | @cons p q ps qs h t ih =>
    obtain ⟨h1, h2⟩ := h
    by_cases e : p.1 = k
    · have e' : q.1 = k := h1.symm.trans e
      have b : valueAt (q :: qs) k = some q.2 := by simp [valueAt, List.find?_cons, e']
      rw [valV_pos e, b]; exact h2
    · have e' : ¬ q.1 = k := fun z => e (h1.trans z)
      have b : valueAt (q :: qs) k = valueAt qs k := by simp [valueAt, List.find?_cons, e']
      rw [valV_neg e, b]; exact ih
theorem KV.any {kvs : List (κ × V)} {vs : List (κ × Value)} (r : KV kvs vs) (k : κ) : (kvs.any fun kv => decide (kv.1 = k)) = vs.any fun kv => decide (kv.1 = k) := by
  unfold KV at r
  induction r with
  | nil => rfl
  | cons h t ih => rw [List.any_cons, List.any_cons, ih, h.1]
theorem KV.repl {kvs : List (κ × V)} {vs : List (κ × Value)} (r : KV kvs vs) (k : κ) {y : V} {u : Value} (ry : RelV y u) :
    KV (kvs.map fun kv => if kv.1 = k then (kv.1, y) else kv) (vs.map fun kv => if kv.1 = k then (kv.1, u) else kv) := by
  unfold KV at r ⊢
  induction r with
  | nil => exact .nil
  | @cons p q ps qs h t ih =>
    rw [List.map_cons, List.map_cons]
    refine .cons ?_ ih
    obtain ⟨h1, h2⟩ := h
    by_cases e : p.1 = k
    · rw [if_pos e, if_pos (h1.symm.trans e)]; exact ⟨h1, ry⟩
    · rw [if_neg e, if_neg (fun z => e (h1.trans z))]; exact ⟨h1, h2⟩
theorem KV.put {kvs : List (κ × V)} {vs : List (κ × Value)} (r : KV kvs vs) (k : κ) {y : V} {u : Value} (ry : RelV y u) : KV (putK kvs k y) (stored vs k u) := by
  unfold putK stored
  rw [r.any k]
  by_cases e : (vs.any fun kv => decide (kv.1 = k)) = true
  · rw [if_pos e, if_pos e]; exact r.repl k ry
  · rw [if_neg e, if_neg e]; exact Paired.snoc r ⟨rfl, ry⟩
theorem KV.drop {kvs : List (κ × V)} {vs : List (κ × Value)} (r : KV kvs vs) (k : κ) : KV (dropK kvs k) (without vs k) := by
  unfold KV at r ⊢
  unfold dropK without
  induction r with
  | nil => exact .nil
  | @cons p q ps qs h t ih =>
    obtain ⟨h1, h2⟩ := h
    rw [List.filter_cons, List.filter_cons]
    by_cases e : p.1 = k
    · have a : ¬ decide (p.1 ≠ k) = true := by simp [e]
      have b : ¬ decide (q.1 ≠ k) = true := by simp [h1.symm.trans e]
      rw [if_neg a, if_neg b]; exact ih
    · have e' : ¬ q.1 = k := fun z => e (h1.trans z)
      have a : decide (p.1 ≠ k) = true := by simp [e]
      have b : decide (q.1 ≠ k) = true := by simp [e']
      rw [if_pos a, if_pos b]; exact .cons ⟨h1, h2⟩ ih
theorem KV.keys {kvs : List (κ × V)} {vs : List (κ × Value)} (r : KV kvs vs) : kvs.map (·.1) = vs.map (·.1) := by
  unfold KV at r
  induction r with
  | nil => rfl
  | cons h t ih => rw [List.map_cons, List.map_cons, ih, h.1]
theorem KV.length {kvs : List (κ × V)} {vs : List (κ × Value)} (r : KV kvs vs) : kvs.length = vs.length := Paired.length r
end
abbrev KT (H : Hp) : List (List Key × V) → List (List Key × Addr × Value) → Prop := Paired fun p q => p.1 = q.1 ∧ H q.2.1 = some (.tup (p.1.map kV)) ∧ RelV p.2 q.2.2
theorem KT.val {H : Hp} {kvs : List (List Key × V)} {xs : List (List Key × Addr × Value)} (r : KT H kvs xs) (k : List Key) : RelO (valV kvs k) ((atKey xs k).map (·.2)) := by
  induction r with
  | nil => exact True.intro
  | @cons p q ps qs h t ih =>
    obtain ⟨h1, _, h2⟩ := h
    by_cases e : p.1 = k
    · have e' : q.1 = k := h1.symm.trans e
      have b : atKey (q :: qs) k = some q.2 := by simp [atKey, List.find?_cons, e']
      rw [valV_pos e, b]; exact h2
    · have e' : ¬ q.1 = k := fun z => e (h1.trans z)
      have b : atKey (q :: qs) k = atKey qs k := by simp [atKey, List.find?_cons, e']
      rw [valV_neg e, b]; exact ih
theorem KT.repl {H : Hp} {kvs : List (List Key × V)} {xs : List (List Key × Addr × Value)} (r : KT H kvs xs) (k : List Key) {y : V} {u : Value} (ry : RelV y u) :
    KT H (kvs.map fun kv => if kv.1 = k then (kv.1, y) else kv) (xs.map (putAt k u)) := by
  induction r with
  | nil => exact .nil
  | @cons p q ps qs h t ih =>
    rw [List.map_cons, List.map_cons]
    refine .cons ?_ ih
    obtain ⟨h1, h2, h3⟩ := h
    unfold putAt
    by_cases e : p.1 = k
    · rw [if_pos e, if_pos (h1.symm.trans e)]; exact ⟨h1, h2, ry⟩
    · rw [if_neg e, if_neg (fun z => e (h1.trans z))]; exact ⟨h1, h2, h3⟩
theorem KT.put {H : Hp} {kvs : List (List Key × V)} {xs : List (List Key × Addr × Value)} (r : KT H kvs xs) (k : List Key) {b : Addr} {y : V} {u : Value} (hb : H b = some (.tup (k.map kV))) (ry : RelV y u) :
    KT H (putK kvs k y) (storedH xs k b u) := by
  have e : (kvs.any fun kv => decide (kv.1 = k)) = (atKey xs k).isSome := by
    rw [valV_any, (r.val k).isSome_eq, Option.isSome_map]
  unfold putK storedH
  rw [e]
  by_cases q : (atKey xs k).isSome = true
  · rw [if_pos q, if_pos q]; exact r.repl k ry
  · rw [if_neg q, if_neg q]; exact Paired.snoc r ⟨rfl, hb, ry⟩
theorem KT.keeps {H H' : Hp} {kvs : List (List Key × V)} {xs : List (List Key × Addr × Value)} (r : KT H kvs xs) (ht : ∀ b ys, H b = some (.tup ys) → H' b = some (.tup ys)) : KT H' kvs xs :=
  Paired.mapP r fun _ _ z => ⟨z.1, ht _ _ z.2.1, z.2.2⟩
section
variable {P : Program} {w : World} {H : Hp} {h : Heap} {a : Addr}
theorem rd_of {u : HO} (ok : HOk P w H h) (e : Rd H a u) : ObjOk P w H h a u := e.ok ok
theorem dk_rd {kvs : List (Key × V)} (ok : HOk P w H h) (e : Rd H a (.dK kvs)) : kvs.length ≤ sizeLine ∧ (a == sysModules) = false ∧ ∃ vs, KV kvs vs ∧ h.DictOf (mixKind P w) a vs :=
  show ObjOk P w H h a (.dK kvs) from rd_of ok e
end
def DGet (H : Hp) (a : Addr) (y : V) (r : Option V) : Prop :=
  (∃ kvs k, Rd H a (.dK kvs) ∧ y = kV k ∧ r = valV kvs k) ∨ ∃ kvs k b, Rd H a (.dT kvs) ∧ y = .ref b ∧ H b = some (.tup (k.map kV)) ∧ r = valV kvs k
def DPut (H : Hp) (a : Addr) (y v : V) (H' : Hp) : Prop :=
  (∃ kvs k, H a = some (.dK kvs) ∧ y = kV k ∧ kvs.length < sizeLine ∧ H' = upd H a (.dK (putK kvs k v))) ∨
  ∃ kvs k b, H a = some (.dT kvs) ∧ y = .ref b ∧ H b = some (.tup (k.map kV)) ∧ kvs.length < sizeLine ∧ H' = upd H a (.dT (putK kvs k v))
theorem DGet.k {H : Hp} {a : Addr} {kvs : List (Key × V)} {k : Key} (e : H a = some (.dK kvs)) : DGet H a (kV k) (valV kvs k) := .inl ⟨kvs, k, .inl e, rfl, rfl⟩
theorem DGet.t {H : Hp} {a b : Addr} {kvs : List (List Key × V)} {k : List Key} (e : H a = some (.dT kvs)) (eb : H b = some (.tup (k.map kV))) : DGet H a (.ref b) (valV kvs k) := .inr ⟨kvs, k, b, .inl e, rfl, eb, rfl⟩
theorem DPut.k {H : Hp} {a : Addr} {kvs : List (Key × V)} {k : Key} {v : V} (e : H a = some (.dK kvs)) (hl : kvs.length < sizeLine) : DPut H a (kV k) v (upd H a (.dK (putK kvs k v))) := .inl ⟨kvs, k, e, rfl, hl, rfl⟩
theorem DPut.t {H : Hp} {a b : Addr} {kvs : List (List Key × V)} {k : List Key} {v : V} (e : H a = some (.dT kvs)) (eb : H b = some (.tup (k.map kV))) (hl : kvs.length < sizeLine) :
    DPut H a (.ref b) v (upd H a (.dT (putK kvs k v))) := .inr ⟨kvs, k, b, e, rfl, eb, hl, rfl⟩
section
variable {X : Cx} {pins : List (Addr × Obj)} {σ : St} {H : Hp} {s : Shared} {a : Addr} {y v : V} {u r : Value} {o : Option V} {A : Around} {E : Value → Shared → Prop}
theorem Inv.big (I : Inv X pins σ H s) : sysModules < s.heap.objs.size := by
  have h : mainGlobals < s.heap.objs.size := (I.mod.glob.keeps I.bk).lt
  exact Nat.lt_trans (by decide) h
end
section
variable {X : Cx} {pins : List (Addr × Obj)} {σ : St} {H : Hp} {s : Shared} {a : Addr} {kvs : List (Key × V)} {k : Key} {u : Value} {A : Around} {E : Value → Shared → Prop}
end
def NoSl (i : Expr) : Prop := ∀ ov iv, subscripted i false ov iv = operate [ov, iv] (getItem ov iv)
section
variable {X : Cx} {o i e value : Expr} {pos pos' tpos : Pos} {td ty tv : TE}
end
section
variable {X : Cx} {pos : Pos}
end
structure M1 (X : Cx) (o : Expr) (m : Str) (apos : Pos) (e : Expr) (cpos : Pos) : Prop where
  base : attributeBase o m X.env (eval o X.env) = eval o X.env
  few : ((backTo cpos (starEach [e] X.env)).all (fun x => !x.1) && (backToKw cpos (keywordEach [] X.env)).all (fun x => x.1.isSome)
    && decide (([e] : List Expr).length + ([] : List Keyword).length + (if ([] : List Keyword).isEmpty then 0 else 1) < 30)) = true
  line : (apos.endLine == cpos.line) = true
  trees : backTo cpos (starEach [e] X.env) = [(false, eval e X.env)]
structure M2 (X : Cx) (o : Expr) (m : Str) (apos : Pos) (e f : Expr) (cpos : Pos) : Prop where
  base : attributeBase o m X.env (eval o X.env) = eval o X.env
  few : ((backTo cpos (starEach [e, f] X.env)).all (fun x => !x.1) && (backToKw cpos (keywordEach [] X.env)).all (fun x => x.1.isSome)
    && decide (([e, f] : List Expr).length + ([] : List Keyword).length + (if ([] : List Keyword).isEmpty then 0 else 1) < 30)) = true
  line : (apos.endLine == cpos.line) = true
  trees : backTo cpos (starEach [e, f] X.env) = [(false, eval e X.env), (false, eval f X.env)]
section
variable {X : Cx} {pins : List (Addr × Obj)} {σ : St} {H : Hp} {s : Shared} {a : Addr} {y d : V} {u r : Value} {o : Option V} {A : Around} {E : Value → Shared → Prop}
end
section
variable {X : Cx} {o e f : Expr} {apos cpos : Pos} {td ty tx : TE}
end
section
variable {X : Cx} {pins : List (Addr × Obj)} {σ : St} {H : Hp} {s : Shared} {a : Addr} {kvs : List (Key × V)} {A : Around} {E : Value → Shared → Prop}
end
section
variable {X : Cx} {pins : List (Addr × Obj)} {σ : St} {H : Hp} {s : Shared} {a : Addr} {y : V} {u : Value} {A : Around} {E : Value → Shared → Prop}
end
end L2
namespace L2
open PySem PySem.Spec PyProof.Rows
section
variable {prog : Program} {w : World} {A : Around} {E : Value → Shared → Prop}
end
section
variable {X : Cx}
end
end L2
namespace L2
open PySem PySem.Spec PyProof.Rows
section
variable {X : Cx} {pins : List (Addr × Obj)} {σ : St} {H : Hp} {s : Shared} {h' : Heap}
end
section
variable {X : Cx}
end
def RgC (i j c : Int) (n : Nat) : Prop := c ≠ 0 ∧ c.natAbs < 1073741824 ∧ Builtin.Range.small i j c = true ∧ Builtin.Range.rangeSize i j c = n
theorem RgC.neg {i j : Int} (ha : -(2 ^ 62) ≤ i) (ha' : i < 2 ^ 62) (hb : -(2 ^ 62) ≤ j) (hb' : j < 2 ^ 62) : RgC i j (-1) (i - j).toNat :=
  ⟨by decide, by decide, PySem.W.small_down ha ha' hb hb', PySem.W.rangeSize_downNat i j⟩
section
variable {X : Cx} {tg : Expr}
end
section
variable {X : Cx} {tg : Expr}
end
section
variable {prog : Program} {w : World} {A : Around} {E : Value → Shared → Prop} {s : Shared}
end
section
variable {X : Cx} {pins : List (Addr × Obj)} {σ : St} {H : Hp} {s : Shared} {d : Addr} {o : Obj}
end
section
variable {P : Program} {w : World} {K : PySem.W.Frag} {tg : Expr} {d : Addr} {o : Obj} {es : Array DictEntry} {ep : Nat}
end
section
variable {X : Cx} {tg e : Expr} {td : TE} {apos cpos : Pos}
end
end L2
section 
namespace Bits
open PySem PyProof.Rows
end Bits
end 
section 
namespace TL
open PySem PySem.Builtin PySem.Builtin.Str PySem.StrLaws
abbrev tl (x : Str) : List Nat := x.cps.toList
theorem len_tl (x : Str) : x.length = (tl x).length := by simp [tl, Str.length]
theorem tl_append (x y : Str) : tl (x ++ y) = tl x ++ tl y := by
  show (x ++ y).cps.toList = _
  rw [Str.cps_append, Array.toList_append]
def pre (S l : List Nat) : Bool := l.take S.length == S
def par (S : List Nat) : List Nat → List Nat → Option (List Nat × List Nat)
  | _, [] => none
  | acc, c :: r => if pre S (c :: r) = true then some (acc, (c :: r).drop S.length) else par S (acc ++ [c]) r
end TL
end 
namespace L2
open PySem PySem.Spec PyProof.Rows
section
variable {X : Cx} {pins : List (Addr × Obj)} {σ : St} {H : Hp} {s : Shared} {Q : VK}
end
section
variable {X : Cx}
end
section
variable {X : Cx} {o e : Expr} {to te : TE}
end
end L2
namespace L2
open PySem PySem.Spec PyProof.Rows
section
variable {X : Cx}
end
end L2
namespace Att
open PySem PySem.W PySem.Calls PyProof.Rows
theorem ints_of_wellAll {P : Params} {h : Heap} : ∀ (ns : List Int) (vs : List Value), WellAll P h vs (ns.map WData.int) → IntsAre vs ns := by
  intro ns
  induction ns with
  | nil =>
    intro vs w
    rw [List.map_nil] at w
    cases w
    exact .nil
  | cons n ns ih =>
    intro vs w
    rw [List.map_cons] at w
    cases w with
    | cons a b =>
      cases a
      exact .cons _ _ (ih _ b)
theorem script_of {l : OpenLaw} {n : Nat} (hn : l.most = some n) {P : Params} {h : Heap} {args : List WData} {vals : List Value}
    (hpre : l.row.toRowW.claim.pre args = true) (hwl : WellAll P h vals args) :
    ∃ a vs ns, vals = [Value.ref a] ∧ args = [WData.list (ns.map WData.int)] ∧ h.get? a = some { cls := .type "list", data := .seq vs.toArray } ∧ IntsAre vs ns ∧ ns.length ≤ n := by
  have hsh : WShape.hasAll [] args [.list .int] = true := (pre_splitW hpre).1
  have hc : l.pre.holds [] { args := args } = true := (pre_splitW hpre).2
  obtain ⟨d, r, rfl, h1, h2⟩ := hasAllW_cons hsh
  obtain rfl := hasAllW_nil h2
  obtain ⟨xs, rfl, h3⟩ := hasW_list h1
  obtain ⟨ns, rfl⟩ := items_int h3
  have hlen : ns.length ≤ n := by
    unfold OpenLaw.pre at hc
    have h4 : (WTm.not (.lt (.lit (.int (n : Int))) (.len (.arg 0)))).holds [] { args := [.list (ns.map .int)] } = true := by
      have h4 := (holds_andW hc).1
      rw [hn] at h4
      exact h4
    have h5 := condW_of h4 (w_not (w_lt w_lit (w_len_list (w_arg rfl))))
    rw [List.length_map] at h5
    refine Nat.le_of_not_lt fun q => ?_
    have q' : (n : Int) < ((ns.length : Nat) : Int) := by omega
    first
      | (rw [decide_eq_true q'] at h5; exact absurd h5 (by decide))
      | (simp at h5; omega)
  cases hwl with
  | cons w1 w2 =>
    cases w2
    cases w1 with
    | list ho hall => exact ⟨_, _, ns, rfl, rfl, ho, ints_of_wellAll ns _ hall, hlen⟩
theorem post_true (l : OpenLaw) (args : List WData) : l.row.toRowW.claim.post args (.bool true) args = true :=
  postW_of (r := l.row.toRowW) (X := (true == true))
    (show WShape.has [] (.bool true) .bool = true by first | rfl | decide | simp [WShape.has, WShape.arms, WShape.armsAll])
    (show (WTm.eq .res (.lit (.bool true))).value [] { args := args, res := some (.bool true), after := args } = some (.bool (true == true)) from w_eq_bool (w_res rfl) w_lit) rfl
theorem attach_call {l : OpenLaw} {n : Nat} {q : Program} {loose : List Str} {XP : (Str → Option Value) → Heap → Prop} {YP : World → Heap → Prop} {d : DefRec}
    (hn : l.most = some n) (hdf : d.params.defaults = [])
    (call : ∀ (w : World) (s₀ s₁ : Shared) (mg mb : Str → Option Value) (fa : Addr) (o : Obj) (pm cd doc : Value) (a : Addr) (vs : List Value) (ns : List Int),
      Ground q loose [] XP w s₀ mg mb s₁.heap → YP w s₁.heap →
      s₁.heap.get? fa = some o → o.data = .func (docDef d.name d.params d.body d.scope pm cd doc) → s₁.heap.CodeRec cd d.name → mg d.name = some (.ref fa) →
      s₁.heap.get? a = some { cls := .type "list", data := .seq vs.toArray } → IntsAre vs ns → ns.length ≤ n → s₁.gens = #[] →
      codeAny (model l.prog w) callerA (.call (.ref fa) ⟨[.ref a], []⟩) (fun r s' => r = .ok (.ret (.bool true)) ∧ OldK s₁.heap s'.heap ∧ s'.os = s₁.os ∧ AllBare s'.gens) s₁) :
    WalkO q loose XP YP l.row.toRowW d [] (fun f vs => PySem.call f vs) := by
  intro w s₀ s₁ mg mb G Y fa o pm cd doc dV kV ho hd hcd hD hmg hg args vals as hpre hlay hrd hwl hlo
  obtain rfl : dV = .none := Dflts.none hD hdf
  obtain rfl : kV = .none := Dflts.noKw hD
  obtain ⟨a, vs, ns, rfl, rfl, hobj, hints, hlen⟩ := script_of hn hpre hwl
  refine enter_call (codeAny_mono (call w s₀ s₁ mg mb fa o pm cd doc a vs ns G Y ho (fd_plain hd) hcd hmg hobj hints hlen hg) fun r s' hq => ?_)
  obtain ⟨rfl, h2, h3, h4⟩ := hq
  exact ⟨.inl ⟨.bool true, .bool true, [], rfl, fun _ => rfl, .bool true, post_true l _, fun _ => ⟨List.Pairwise.nil, fun _ hm => (nomatch hm)⟩⟩, h2, h3, h4⟩
section
variable {prog : Program} {w : World} {A : Around} {E : Value → Shared → Prop} {s : Shared} {K : Frag}
end
end Att
namespace L2
open PySem PySem.Spec PyProof.Rows
theorem vals_ints : ∀ {vs : List Value} {ns : List Int}, IntsAre vs ns → Vals (ns.map V.int) vs
  | _, _, .nil => .nil
  | _, _, .cons n t h => .cons ⟨t, rfl⟩ (vals_ints h)
def Only (H : Hp) : Prop := ∀ b, H b = none ∨ ∃ o xs, H b = some (.frz o (.lst xs))
theorem law_call {P : Program} {w : World} {K : PySem.W.Frag} {mg mb : Str → Option Value} {CX : CXT} {k : Nat} {fa a : Addr} {fd : FuncData} {x : Str} {sp : Sp} {s₁ : Shared} {vs : List Value} {ns : List Int}
    (KX : K.In s₁.heap) (hns : s₁.heap.Ns mainGlobals mg) (hb : s₁.heap.Ns builtinsNs mb) (hbb : ∀ x : Str, x ≠ "__name__" → mb x = bootBuiltins x) (hlim : s₁.heap.NoLimit) (hg : s₁.gens = #[])
    (ha : s₁.heap.get? a = some { cls := .type "list", data := .seq vs.toArray }) (hi : IntsAre vs ns) (hl : ns.length ≤ sizeLine) (hr : Room k callerA)
    (F : ∀ base : Heap, K.In base → base.Ns mainGlobals mg → FnOk P w K mg base CX k fa fd [x] sp) (hbind : ∀ (s : Shared) (u : Value), BindsTo s fd ⟨[u], []⟩ [(x, u)])
    (hsp : ∀ H : Hp, Only H → SqL K H a (ns.map V.int) → sp [.ref a] H (fun v _ => v = .bl true) fun _ _ _ => False)
    (hCX : ∀ H e s', CX [] H s₁ (fun _ _ _ => False) e s' → False) :
    codeAny (model P w) callerA (.call (.ref fa) ⟨[.ref a], []⟩) (fun r s' => r = .ok (.ret (.bool true)) ∧ OldK s₁.heap s'.heap ∧ s'.os = s₁.os ∧ AllBare s'.gens) s₁ := by
  have rv := vals_ints hi
  have lenV := hi.length
  have core : ∀ H : Hp, Only H → SqL K H a (ns.map V.int) → HOk P w H s₁.heap → (∀ b, H b ≠ none → b = a) → (H a ≠ none → K.lookup a = none) →
      codeAny (model P w) callerA (.call (.ref fa) ⟨[.ref a], []⟩) (fun r s' => r = .ok (.ret (.bool true)) ∧ OldK s₁.heap s'.heap ∧ s'.os = s₁.os ∧ AllBare s'.gens) s₁ := by
    intro H hO hS hok hA hK
    have base_of : ∀ {b : Addr} {o : Obj}, s₁.heap.get? b = some o → H b = none → (hidT s₁.heap H).get? b = some o := fun e n => hidT_get e n
    have noA : ∀ {b : Addr} {o : Obj} {es : Array DictEntry} {ep : Nat}, s₁.heap.get? b = some o → o.data = .dict es ep → H b = none := fun {b o es ep} e d => by
      cases q : H b with
      | none => rfl
      | some u =>
        have e' : b = a := hA b (by rw [q]; simp)
        subst e'
        rw [ha] at e; cases e
        have d' : Data.seq vs.toArray _ = Data.dict es ep := d
        cases d'
    have nsK : ∀ {b : Addr} {m : Str → Option Value}, s₁.heap.Ns b m → (hidT s₁.heap H).Ns b m := fun {b m} ⟨o, es, ep, e, d, r⟩ => ⟨o, es, ep, base_of e (noA e d), d, r⟩
    have hKb : K.In (hidT s₁.heap H) := fun b o e => base_of (KX b o e) (by
      cases q : H b with
      | none => rfl
      | some u =>
        have e' : b = a := hA b (by rw [q]; simp)
        subst e'
        rw [hK (by rw [q]; simp)] at e; cases e)
    have hM : Mod K mg (hidT s₁.heap H) := ⟨hKb, nsK hns, ⟨mb, nsK hb, hbb⟩, let ⟨mc, h1, h2⟩ := hlim; ⟨mc, nsK h1, h2⟩⟩
    have e0 : Env0 P w K mg (hidT s₁.heap H) callerA [] s₁ H := ⟨rfl, hM, fun b o e => of_hidT e, Nat.le_of_eq (hidT_size _ _), trivial, fun b hb => absurd (show b ∈ ([] : List Addr) from hb) (by simp), hok, .of_eq hg⟩
    refine codeAny_mono ((F _ hKb (nsK hns)).run callerA [] s₁ H ⟨[.ref a], []⟩ [.ref a] [.ref a] _ _ hr e0 (hbind s₁ (.ref a)) (.cons rfl .nil) (hsp H hO hS)) fun r s' h => ?_
    cases r with
    | error e => exact (hCX H e s' h).elim
    | ok fl =>
      cases fl with
      | next => exact False.elim h
      | brk => exact False.elim h
      | cont => exact False.elim h
      | ret u =>
        obtain ⟨v, H', os, bare, un, hok', r', q⟩ := h
        have q' : v = .bl true := q
        subst q'
        obtain rfl : u = Value.bool true := r'
        refine ⟨rfl, OldK.of_keep fun b o e => ?_, os, bare⟩
        cases q : H b with
        | none => exact un.keep b o e q (by intro z; exact absurd (show b ∈ ([] : List Addr) from z) (by simp)) (by simp)
        | some u =>
          rcases hO b with z | ⟨ob, xs, z⟩
          · rw [q] at z; cases z
          · have z2 := un.frzs b ob _ z
            obtain ⟨e1, _⟩ := hok b _ z
            obtain ⟨e2, _⟩ := hok' b _ z2
            rw [e] at e1; cases e1
            exact e2
  cases hk : K.lookup a with
  | some o =>
    have e := KX a o hk
    rw [ha] at e
    cases e
    refine core (fun _ => none) (fun _ => .inl rfl) (.inr ⟨_, vs.toArray, _, hk, rfl, rfl, rfl, by rw [List.size_toArray, lenV]; exact hl, by simpa using rv⟩) (fun b u z => by have z' : (none : Option HO) = some u := z; cases z') (fun b z => absurd rfl z) fun z => absurd rfl z
  | none =>
    refine core (fun b => if b = a then some (.frz { cls := .type "list", data := .seq vs.toArray } (.lst (ns.map V.int))) else none) (fun b => ?_) (.inl (.inr ⟨{ cls := .type "list", data := .seq vs.toArray }, if_pos rfl⟩)) (fun b u z => ?_) (fun b z => ?_) fun _ => hk
    · by_cases hb : b = a
      · exact .inr ⟨_, _, if_pos hb⟩
      · exact .inl (if_neg hb)
    · by_cases hb : b = a
      · have z' := (if_pos hb).symm.trans z
        cases z'
        subst hb
        exact ⟨ha, by rw [List.length_map]; exact hl, vs, _, rv, ha⟩
      · have z' := (if_neg hb).symm.trans z
        cases z'
    · by_cases hb : b = a
      · exact hb
      · exact absurd (if_neg hb) z
end L2
namespace L2
open PySem PySem.Spec PyProof.Rows
theorem walk_of {l : PySem.W.OpenLaw} {n k : Nat} {q : Program} {loose : List Str} {XP : (Str → Option Value) → Heap → Prop} {YP : World → Heap → Prop} {d : DefRec} {K : Params → PySem.W.Frag} {CX : World → CXT} {sp : World → Sp} {x : Str}
    (hn : l.most = some n) (hn2 : n ≤ sizeLine) (hdf : d.params.defaults = []) (hr : Room k callerA)
    (hY : ∀ (w : World) (h : Heap), YP w h → (K w.params).In h)
    (F : ∀ (w : World) (mg : Str → Option Value) (fa : Addr) (h : Heap), (K w.params).In h → h.Ns mainGlobals mg → mg d.name = some (.ref fa) →
      ∃ fd : FuncData, (∀ (s : Shared) (u : Value), BindsTo s fd ⟨[u], []⟩ [(x, u)]) ∧
        ∀ base : Heap, (K w.params).In base → base.Ns mainGlobals mg → FnOk l.prog w (K w.params) mg base (CX w) k fa fd [x] (sp w))
    (hsp : ∀ (w : World) (H : Hp) (a : Addr) (ns : List Int), ns.length ≤ n → Only H → SqL (K w.params) H a (ns.map V.int) → sp w [.ref a] H (fun v _ => v = .bl true) fun _ _ _ => False)
    (hCX : ∀ (w : World) (H : Hp) (s : Shared) (e : Value) (s' : Shared), CX w [] H s (fun _ _ _ => False) e s' → False) :
    PySem.W.WalkO q loose XP YP l.row.toRowW d [] (fun f vs => PySem.call f vs) := by
  refine Att.attach_call hn hdf fun w s₀ s₁ mg mb fa o pm cd doc a vs ns G Y ho hd hcd hmg hobj hints hlen hg => ?_
  have KX := hY w _ Y
  obtain ⟨fd, hb, hF⟩ := F w mg fa _ KX G.T.g hmg
  exact law_call KX G.T.g G.T.b G.T.builtins G.T.nolimit hg hobj hints (Nat.le_trans hlen hn2) hr hF hb (fun H hO hS => hsp w H a ns hlen hO hS) fun H e s' => hCX w H s₁ e s'
end L2
/- THE LAST THEOREM (shape; LID, My.* are yours):
   My.Adr: a structure of the addresses that your layer names (classes, functions); My.Txt K t: a structure (Prop) of the equations over K;
   My.txt_mk : {K} {implicit addresses ..} (e1 : nsIn K mainGlobals "law" = some (some (.ref f))) (e2 : K.lookup f = some ⟨oc, od, .func (fnOf "law" "law" params body scope dV kV doc pm an cdv ct), sl⟩) (e3 : codeIn K cdv "law" = true) .. : ∃ t, My.Txt K t
(the tactic k_is has no namespace: write k_is) -/
namespace L2
open PySem PySem.Spec PyProof.Rows
def defArgs (s : Stmt) : Arguments := match s with
  | .FunctionDef _ a _ _ _ _ _ _ _ _ => a
  | _ => { posonlyargs := [], args := [], vararg := none, kwonlyargs := [], kw_defaults := [], kwarg := none, defaults := [] }
def defBody (s : Stmt) : List Stmt := match s with
  | .FunctionDef _ _ b _ _ _ _ _ _ _ => b
  | _ => []
def defScope (s : Stmt) : Scope := match s with
  | .FunctionDef _ _ _ _ _ _ sc _ _ _ => sc
  | _ => { kind := .function, names := [], isGenerator := false, isCoroutine := false }
abbrev CX0 : CXT := fun _ _ _ _ _ _ => False
abbrev E0 : XK := fun _ _ _ => False
theorem pass0 {X : Cx} : Passes CX0 X E0 := fun _ _ _ _ _ _ _ h => h.elim
structure Fun (K : PySem.W.Frag) (x qual : Str) (st : Stmt) (f : Addr) (fd : FuncData) : Prop where
  ex : ∃ (oc : Value) (od : Option Addr) (kV doc pm : Value) (an : Option Addr) (cdv ct : Value) (osl : Array (Option Value)),
    fd = PySem.W.fnOf x qual (defArgs st) (defBody st) (defScope st) .none kV doc pm an cdv ct ∧ K.lookup f = some ⟨oc, od, .func fd, osl⟩ ∧ PySem.W.codeIn K cdv qual = true
  kp : PySem.W.keepIn K (.ref f) = true
section
variable {P : Program} {w : World} {K : PySem.W.Frag} {mg : Str → Option Value} {base : Heap}
theorem Fun.ok {x qual : Str} {st : Stmt} {f : Addr} {fd : FuncData} {N ps : List Str} {k : Nat} {sp : Sp} (F : Fun K x qual st f fd) (S : FnScope N ps (defScope st)) (len : ∀ vs H Q E, sp vs H Q E → vs.length = ps.length)
    (hbody : ∀ (cdv : Value) (A : Around) (outer : List Env) (s : Shared) (H : Hp) (vs : List V) (Q : VK) (E : XK), Room k (A.deeper (envOfC qual (defScope st) s.heap.objs.size f cdv)) → sp vs H Q E →
      ∃ t, PSs (cxOf CX0 P w K mg base N qual (defScope st) f cdv A outer s H E).nox (defBody st) t ∧ t { nx := fun _ H' => Q .non H', rt := Q } (start N vs) H) : FnOk P w K mg base CX0 (k + 1) f fd ps sp := by
  obtain ⟨oc, od, kV, doc, pm, an, cdv, ct, osl, rfl, lk, hcd⟩ := F.ex
  refine fn_of lk hcd S len fun A outer s H vs Q E hr hsp => ?_
  obtain ⟨t, h, q⟩ := hbody cdv A outer s H vs Q E hr hsp
  exact ⟨t, h.nox, q⟩
theorem Fun.binds {x qual : Str} {st : Stmt} {f : Addr} {fd : FuncData} {ps : List Str} (F : Fun K x qual st f fd)
    (h : ∀ (kV doc pm : Value) (an : Option Addr) (cdv ct : Value) (us : List Value), us.length = ps.length → bindArgs (PySem.W.fnOf x qual (defArgs st) (defBody st) (defScope st) .none kV doc pm an cdv ct) ⟨us, []⟩ = pure (ps.zip us)) : Binds K fd ps [] := by
  obtain ⟨oc, od, kV, doc, pm, an, cdv, ct, osl, rfl, lk, hcd⟩ := F.ex
  exact .all (h kV doc pm an cdv ct)
theorem fun_mk {x qual : Str} {st : Stmt} {f : Addr} {oc : Value} {od an : Option Addr} {osl : Array (Option Value)} {kV doc pm cdv ct : Value} (l : K.lookup f = some ⟨oc, od, .func (PySem.W.fnOf x qual (defArgs st) (defBody st) (defScope st) .none kV doc pm an cdv ct), osl⟩)
    (c : PySem.W.codeIn K cdv qual = true) (k : PySem.W.keepIn K (.ref f) = true) : Fun K x qual st f (PySem.W.fnOf x qual (defArgs st) (defBody st) (defScope st) .none kV doc pm an cdv ct) := ⟨⟨oc, od, kV, doc, pm, an, cdv, ct, osl, rfl, l, c⟩, k⟩
end
section
variable {X : Cx}
end
theorem iteF {A B : Prop} (h : B) : if false = true then A else B := by
  rw [if_neg Bool.false_ne_true]
  exact h
theorem iteT {A B : Prop} (h : A) : if true = true then A else B := by
  rw [if_pos rfl]
  exact h
def Same (H H' : Hp) : Prop := ∀ b o, H b = some o → H' b = some o
theorem Same.refl (H : Hp) : Same H H := fun _ _ h => h
theorem Same.trans {H H1 H2 : Hp} (a : Same H H1) (b : Same H1 H2) : Same H H2 := fun c o h => b c o (a c o h)
theorem Same.free {H H' : Hp} (e : Same H H') {l : Addr} (h : H' l = Option.none) : H l = Option.none := by
  cases q : H l with
  | none => rfl
  | some o =>
    rw [e l o q] at h
    cases h
theorem Same.seq {K : PySem.W.Frag} {H H' : Hp} {a : Addr} {xs : List V} (e : Same H H') (h : SqL K H a xs) : SqL K H' a xs := by
  rcases h with (h | ⟨o, h⟩) | h
  · exact .inl (.inl (e _ _ h))
  · exact .inl (.inr ⟨o, e _ _ h⟩)
  · exact .inr h
section
variable {κ : Type} [DecidableEq κ]
end
end L2
set_option maxHeartbeats 4000000
namespace Bd
open PySem PySem.Spec
def Up (xs : Array Nat) : Prop := ∀ (i k a b : Nat), i < k → xs[i]? = some a → xs[k]? = some b → a < b
theorem below_go (xs : Array Nat) (j : Nat) (hu : Up xs) : ∀ (fuel lo hi : Nat), lo ≤ hi → hi ≤ xs.size → hi - lo ≤ fuel → (∀ m a, m < lo → xs[m]? = some a → a < j) → (∀ m a, hi ≤ m → xs[m]? = some a → j ≤ a) →
    let r := SetTable.below.go xs j fuel lo hi
    r ≤ xs.size ∧ (∀ m a, m < r → xs[m]? = some a → a < j) ∧ (∀ m a, r ≤ m → xs[m]? = some a → j ≤ a)
  | 0, lo, hi, h1, h2, h3, h4, h5 => by
    have e : lo = hi := by omega
    subst e
    exact ⟨h2, h4, h5⟩
  | fuel + 1, lo, hi, h1, h2, h3, h4, h5 => by
    unfold SetTable.below.go
    by_cases hl : lo < hi
    · rw [if_pos hl]
      have hm : (lo + hi) / 2 < xs.size := by omega
      have hg : xs.getD ((lo + hi) / 2) j = xs[(lo + hi) / 2] := by simp [Array.getD, hm]
      dsimp only
      rw [hg]
      have he : xs[(lo + hi) / 2]? = some xs[(lo + hi) / 2] := by simp [hm]
      split
      · next hc =>
        refine below_go xs j hu fuel _ hi (by omega) h2 (by omega) (fun m a hm' ha => ?_) h5
        rcases Nat.lt_or_ge m ((lo + hi) / 2) with q | q
        · exact Nat.lt_trans (hu _ _ _ _ q ha he) hc
        · have : m = (lo + hi) / 2 := by omega
          subst this
          rw [he] at ha; cases ha; exact hc
      · next hc =>
        refine below_go xs j hu fuel lo _ (by omega) (by omega) (by omega) h4 (fun m a hm' ha => ?_)
        rcases Nat.lt_or_ge ((lo + hi) / 2) m with q | q
        · have := hu _ _ _ _ q he ha; omega
        · have : m = (lo + hi) / 2 := by omega
          subst this
          rw [he] at ha; cases ha; omega
    · rw [if_neg hl]
      have e : lo = hi := by omega
      subst e
      exact ⟨h2, h4, h5⟩
theorem below_spec (xs : Array Nat) (j : Nat) (hu : Up xs) : SetTable.below xs j ≤ xs.size ∧ (∀ m a, m < SetTable.below xs j → xs[m]? = some a → a < j) ∧ (∀ m a, SetTable.below xs j ≤ m → xs[m]? = some a → j ≤ a) := by
  unfold SetTable.below
  exact below_go xs j hu xs.size 0 xs.size (Nat.zero_le _) (Nat.le_refl _) (by omega) (fun m a h => absurd h (Nat.not_lt_zero _)) (fun m a h ha => by
    have : m < xs.size := by
      rcases Nat.lt_or_ge m xs.size with q | q
      · exact q
      · rw [Array.getElem?_eq_none q] at ha; cases ha
    omega)
theorem insertAt_get {α : Type} (xs : Array α) (p : Nat) (x : α) (hp : p ≤ xs.size) (m : Nat) : (SetTable.insertAt xs p x)[m]? = if m < p then xs[m]? else if m = p then some x else xs[m - 1]? := by
  rw [← Array.getElem?_toList, SetTable.toList_insertAt]
  have hl : (xs.toList.take p).length = p := by rw [List.length_take, Array.length_toList]; omega
  split
  · next h => rw [List.getElem?_append_left (by omega), List.getElem?_take_of_lt h, Array.getElem?_toList]
  · next h =>
    rw [List.getElem?_append_right (by omega), hl]
    split
    · next e => subst e; simp
    · next e =>
      obtain ⟨q, hq⟩ : ∃ q, m - p = q + 1 := ⟨m - p - 1, by omega⟩
      rw [hq, List.getElem?_cons_succ, List.getElem?_drop, Array.getElem?_toList]
      congr 1; omega
theorem up_insert {xs : Array Nat} {j : Nat} (hu : Up xs) (hn : ∀ m : Nat, xs[m]? ≠ some j) : Up (SetTable.insertAt xs (SetTable.below xs j) j) := by
  obtain ⟨h1, h2, h3⟩ := below_spec xs j hu
  intro i k a b hik ha hb
  rw [insertAt_get _ _ _ h1] at ha hb
  split at ha
  · next q1 =>
    split at hb
    · exact hu _ _ _ _ hik ha hb
    · split at hb
      · cases hb; exact h2 _ _ q1 ha
      · have q2 := h2 _ _ q1 ha
        have q3 := h3 (k - 1) b (by omega) hb
        omega
  · next q1 =>
    split at ha
    · cases ha
      rw [if_neg (by omega), if_neg (by omega)] at hb
      have q3 := h3 (k - 1) b (by omega) hb
      rcases Nat.lt_or_ge j b with q | q
      · exact q
      · have : b = j := by omega
        rw [this] at hb; exact absurd hb (hn _)
    · rw [if_neg (by omega), if_neg (by omega)] at hb
      exact hu (i - 1) (k - 1) a b (by omega) ha hb
theorem up_range (n : Nat) : Up (Array.range n) := by
  intro i k a b hik ha hb
  rw [Array.getElem?_range] at ha hb
  split at ha
  · split at hb
    · cases ha; cases hb; exact hik
    · cases hb
  · cases ha
theorem slot_empty {t : SetTable} {j : Nat} (hu : Up t.place) (h : t.slot j = .empty) : ∀ m : Nat, t.place[m]? ≠ some j := by
  intro m hm
  obtain ⟨h1, h2, h3⟩ := below_spec t.place j hu
  unfold SetTable.slot at h
  dsimp only at h
  have e : SetTable.below t.place j = m := by
    rcases Nat.lt_trichotomy m (SetTable.below t.place j) with q | q | q
    · exact absurd (h2 _ _ q hm) (Nat.lt_irrefl _)
    · exact q.symm
    · have hlt : SetTable.below t.place j < t.place.size := by
        have : m < t.place.size := by
          rcases Nat.lt_or_ge m t.place.size with r | r
          · exact r
          · rw [Array.getElem?_eq_none r] at hm; cases hm
        omega
      have he : t.place[SetTable.below t.place j]? = some t.place[SetTable.below t.place j] := by simp [hlt]
      have r1 := hu _ _ _ _ q he hm
      have r2 := h3 _ _ (Nat.le_refl _) he
      omega
  rw [e, hm] at h
  simp at h
theorem probe_go {t : SetTable} {f : Nat → Int} {h : Int} (hd : t.dummies = #[]) : ∀ (fuel : Nat) (p : SetTable.Probe) (j : Nat) (d : Option Nat), p.dummy = none → SetTable.probe.go t f h fuel p = some (.empty j d) → d = none ∧ t.slot j = .empty
  | 0, p, j, d, _, e => by cases e
  | fuel + 1, p, j, d, hp, e => by
    unfold SetTable.probe.go at e
    have adv : ∀ q : SetTable.Probe, q.dummy = none → (t.advance q).dummy = none := fun q hq => by
      unfold SetTable.advance
      split
      · exact hq
      · exact hq
    split at e
    · next q => cases e; exact ⟨hp, q⟩
    · next q =>
      exfalso
      unfold SetTable.slot at q
      dsimp only at q
      split at q
      · cases q
      · have : SetTable.has t.dummies p.j = false := by
          unfold SetTable.has
          rw [hd]; simp
        rw [this] at q; simp at q
    · split at e
      · cases e
      · exact probe_go hd fuel _ j d (adv p hp) e
theorem free_slot {t : SetTable} {h : Int} {j : Nat} {b : Bool} (hd : t.dummies = #[]) (hu : Up t.place) (e : t.freeSlot h = some (j, b)) : ∀ m : Nat, t.place[m]? ≠ some j := by
  unfold SetTable.freeSlot at e
  split at e
  · next j' d q =>
    unfold SetTable.probe at q
    obtain ⟨rfl, q2⟩ := probe_go hd _ _ _ _ rfl q
    simp at e
    rw [← e.1]
    exact slot_empty hu q2
  · cases e
structure Tab (b : Bool) (t : SetTable) : Prop where
  led : t.led = b
  dum : t.dummies = #[]
  up : Up t.place
theorem Tab.standIn {b : Bool} {t : SetTable} (h : Tab b t) (n : Nat) : Tab b (t.standIn n) := ⟨h.led, rfl, up_range n⟩
theorem Tab.orStandIn {b : Bool} {t : SetTable} (h : Tab b t) (n : Nat) : Tab b (t.orStandIn n) := by
  unfold SetTable.orStandIn
  split
  · exact h
  · exact h.standIn n
theorem Tab.layNew {b : Bool} {t : SetTable} (h : Tab b t) (es : Array (Int × Value)) (k : Int) (x : Value) : Tab b (PySem.layNew t es k x).2.1 := by
  unfold PySem.layNew
  split
  · next slot wd e =>
    dsimp only
    refine Tab.orStandIn (t := (t.put slot).1) ⟨h.led, ?_, up_insert h.up (free_slot h.dum h.up e)⟩ _
    show (if SetTable.has t.dummies slot = true then _ else t.dummies) = #[]
    have : SetTable.has t.dummies slot = false := by
      unfold SetTable.has; rw [h.dum]; simp
    rw [this]; exact h.dum
  · exact h.standIn _
theorem up_filterMap (g : Nat → Option Nat) : ∀ (n : Nat), ((List.range n).filterMap fun j => (g j).map fun o => (j, o)).Pairwise (fun p q => p.1 < q.1) := by
  intro n
  rw [List.pairwise_filterMap]
  refine List.Pairwise.imp ?_ List.pairwise_lt_range
  intro a b hab p hp q hq
  cases e1 : g a with
  | none => rw [e1] at hp; cases hp
  | some o1 =>
    cases e2 : g b with
    | none => rw [e2] at hq; cases hq
    | some o2 =>
      rw [e1] at hp; rw [e2] at hq
      cases hp; cases hq
      exact hab
theorem up_of_pairwise {l : List Nat} (h : l.Pairwise (· < ·)) : Up l.toArray := by
  intro i k a b hik ha hb
  rw [List.getElem?_toArray] at ha hb
  obtain ⟨h1, e1⟩ := List.getElem?_eq_some_iff.mp ha
  obtain ⟨h2, e2⟩ := List.getElem?_eq_some_iff.mp hb
  rw [← e1, ← e2]
  exact List.pairwise_iff_getElem.mp h i k h1 h2 hik
theorem Tab.relayAll {b : Bool} {t : SetTable} (h : Tab b t) (es : Array (Int × Value)) (n : Nat) : Tab b (PySem.relayAll t es n).2.1 := by
  unfold PySem.relayAll
  split
  · next t' order e =>
    dsimp only
    split
    · unfold SetTable.relaid SetTable.laid at e
      cases q : SetTable.layClean (SetTable.sizeAbove n - 1) (es.map (·.1)) with
      | none => rw [q] at e; cases e
      | some owner =>
        rw [q] at e
        have e' := congrArg (Option.map Prod.fst) e
        simp at e'
        rw [← e']
        refine ⟨h.led, rfl, ?_⟩
        have z := up_of_pairwise (List.pairwise_map.mpr (up_filterMap (fun j => owner.getD j none) (SetTable.sizeAbove n - 1 + 1)))
        first | exact z | simpa using z
    · exact h.standIn _
  · exact h.standIn _
end Bd
namespace Bd
open PySem PySem.Spec
def kOf : Value → Int
  | .int i _ => i
  | _ => 0
def IntEs (es : List (Int × Value)) : Prop := ∀ e ∈ es, ∃ (k : Int) (tk : Tok), e.2 = Value.int k tk ∧ e.1 = hashInt k
def SetP (b : Bool) (h : Heap) (a : Addr) (ks : List Int) : Prop :=
  ∃ o es ep t, h.get? a = some o ∧ o.ExactSet ∧ o.data = Data.set es ep t ∧ IntEs es.toList ∧ (es.toList.map fun e => kOf e.2).Perm ks ∧ es.size < scanBound ∧ t.fits es.size = true ∧ Tab b t
section
variable {prog : Program} {w : World} {A : Around} {E : Value → Shared → Prop} {s : Shared} {b : Bool} {a : Addr} {ks : List Int}
theorem IntEs.elems {es : List (Int × Value)} (h : IntEs es) : ElemsOf (intKind prog w) es := fun e he => by
  obtain ⟨k, tk, e1, e2⟩ := h e he
  exact ⟨⟨k, by rw [e1]; exact intKind_is prog w k tk, e2⟩, by rw [e1]; rfl⟩
theorem is_kOf {v : Value} {k i : Int} {tk : Tok} (e : v = .int i tk) : (intKind prog w).is k v = decide (i = k) := by
  subst e
  show Value.isInt k (.int i tk) = decide (i = k)
  simp only [Value.isInt]
  rcases Decidable.em (i = k) with q | q
  · subst q; simp
  · simp [q]
theorem IntEs.mem_iff {es : List (Int × Value)} (h : IntEs es) (k : Int) : k ∈ (es.map fun e => kOf e.2) ↔ ∃ e ∈ es, (intKind prog w).is k e.2 = true := by
  rw [List.mem_map]
  constructor
  · rintro ⟨e, he, q⟩
    obtain ⟨i, tk, e1, _⟩ := h e he
    refine ⟨e, he, ?_⟩
    rw [is_kOf e1, decide_eq_true_eq]
    rw [e1] at q; exact q
  · rintro ⟨e, he, q⟩
    obtain ⟨i, tk, e1, _⟩ := h e he
    rw [is_kOf e1, decide_eq_true_eq] at q
    exact ⟨e, he, by rw [e1]; exact q⟩
theorem SetP.keep {h h' : Heap} (x : SetP b h a ks) (k : ∀ o, h.get? a = some o → h'.get? a = some o) : SetP b h' a ks := by
  obtain ⟨o, es, ep, t, h1, r⟩ := x
  exact ⟨o, es, ep, t, k o h1, r⟩
theorem SetP.perm {h : Heap} {ks' : List Int} (x : SetP b h a ks) (p : ks.Perm ks') : SetP b h a ks' := by
  obtain ⟨o, es, ep, t, h1, h2, h3, h4, h5, r⟩ := x
  exact ⟨o, es, ep, t, h1, h2, h3, h4, h5.trans p, r⟩
theorem SetP.lt {h : Heap} (x : SetP b h a ks) : a < h.objs.size := by
  obtain ⟨o, es, ep, t, h1, _⟩ := x; exact Heap.lt_size h1
theorem SetP.typeIs (x : SetP b s.heap a ks) : s.TypeIs (.ref a) "set" := by
  obtain ⟨o, es, ep, t, h1, h2, _⟩ := x
  exact ⟨o, h1, h2.1⟩
theorem gave_ok (c : Bool) {s₁ : Shared} {Q' : Unit → Shared → Prop} (hq : Q' () s₁) : wpAny (model prog w) A (match c with | true => rule "set.scan.the-table-gave-way" | false => pure ()) Q' E s₁ := by
  cases c
  · exact wpAny_pure hq
  · exact wpAny_rule hq
theorem store_get {o : Obj} {es es' : Array (Int × Value)} {ep : Nat} {t t' : SetTable} {h : Heap} (ho : h.get? a = some o) (hd : o.data = .set es ep t) :
    (h.update a (Obj.putSet es' t')).get? a = some { o with data := .set es' (ep + 1) t' } := by
  have q := Heap.get?_update_self (Obj.putSet es' t') ho (by rw [putSet_of es' t' hd]; rfl)
  rwa [putSet_of es' t' hd] at q
theorem add_tail {o : Obj} {es : Array (Int × Value)} {ep : Nat} {t : SetTable} (ho : s.heap.get? a = some o) (hx : o.ExactSet) (hd : o.data = .set es ep t) {es1 : Array (Int × Value)} {t2 : SetTable} (h4 : IntEs es1.toList)
    (h5 : (es1.toList.map fun e => kOf e.2).Perm ks) (h6 : es1.size < scanBound) (h7 : t2.fits es1.size = true) (h8 : Tab b t2) {wd : Bool} {R : Option Bool → Shared → Prop}
    (h : ∀ h', Heap.SameBut a s.heap h' → SetP b h' a ks → R (some true) { s with heap := h' }) {g : Bool → Sem Unit} (hg : ∀ (c : Bool) (s₁ : Shared) (Q' : Unit → Shared → Prop), Q' () s₁ → wpAny (model prog w) A (g c) Q' E s₁) :
    wpAny (model prog w) A (do
        storeSet a es1 t2
        if (!wd && t2.tooFull) = true then do
            g (relayAll t2 es1 (SetTable.grown es1.size)).2.2
            storeSet a (relayAll t2 es1 (SetTable.grown es1.size)).1 (relayAll t2 es1 (SetTable.grown es1.size)).2.1
            pure (some true)
          else pure (some true)) R E s := by
  have sb := Heap.SameBut.update s.heap a (Obj.putSet es1 t2)
  have g1 := store_get (es' := es1) (t' := t2) ho hd
  refine wpAny_bind (wpAny_storeSet_of (hz := fits_of_scanBound h6) ho hd ?_)
  split
  · have hp := relayAll_perm t2 es1 (SetTable.grown es1.size)
    have hf := relayAll_fits t2 es1 (SetTable.grown es1.size)
    have ht := h8.relayAll es1 (SetTable.grown es1.size)
    generalize relayAll t2 es1 (SetTable.grown es1.size) = Z at hp hf ht ⊢
    obtain ⟨es2, t3, c2⟩ := Z
    dsimp only at hp hf ht ⊢
    have hz : es2.size = es1.size := by rw [← Array.length_toList, hp.length_eq, Array.length_toList]
    have h6' : es2.size < scanBound := hz ▸ h6
    refine wpAny_bind (hg c2 _ _ (wpAny_bind (wpAny_storeSet_of (hz := fits_of_scanBound h6') g1 rfl ?_)))
    refine wpAny_pure (h _ (sb.trans (Heap.SameBut.update _ a _)) ⟨_, es2, _, t3, store_get g1 rfl, hx, rfl, fun e he => h4 e (hp.mem_iff.mp he), (hp.map _).trans h5, h6', hf, ht⟩)
  · exact wpAny_pure (h _ sb ⟨_, es1, _, t2, g1, hx, rfl, h4, h5, h6, h7, h8⟩)
theorem add_int {k : Int} {tk : Tok} {Q : Bool → Shared → Prop} (x : SetP b s.heap a ks) (hr : ks.length + 1 < scanBound)
    (h : ∀ h', Heap.SameBut a s.heap h' → SetP b h' a (if k ∈ ks then ks else ks ++ [k]) → Q (!decide (k ∈ ks)) { s with heap := h' }) :
    wpAny (model prog w) A (setAddHashed a (.int k tk) (hashInt k)) Q E s := by
  obtain ⟨o, es, ep, t, h1, h2, h3, h4, h5, h6, h7, h8⟩ := id x
  have hz : es.size = ks.length := by rw [← h5.length_eq, List.length_map, Array.length_toList]
  have el : ElemsOf (intKind prog w) es.toList := h4.elems
  have hk : (intKind prog w).is k (.int k tk) = true := intKind_is prog w k tk
  unfold setAddHashed setAddHashedIn
  refine wpAny_holding (wpAny_bind (wpAny_setState_of h1 h3 h7 ?_)); dsimp only
  rw [byScan_of (knd := intKind prog w) rfl h6 el]; simp only [↓reduceIte]
  unfold setAddByScan
  refine wpAny_bind (wpAny_bind (wpAny_rule (wpAny_bind (wpAny_setScan_of (knd := intKind prog w) hk h1 h3 h7 el ?_))))
  cases hf : List.findIdx? (fun e => (intKind prog w).is k e.2) es.toList with
  | some j =>
    obtain ⟨hj, hpj, _⟩ := List.findIdx?_eq_some_iff_getElem.mp hf
    have hm : k ∈ ks := h5.mem_iff.mp ((h4.mem_iff (prog := prog) (w := w) k).mpr ⟨es.toList[j], List.getElem_mem hj, hpj⟩)
    dsimp only
    have z := h s.heap (Heap.SameBut.refl a s.heap) (by rw [if_pos hm]; exact x)
    rw [decide_eq_true hm] at z
    exact wpAny_pure (wpAny_pure z)
  | none =>
    have hm : ¬ k ∈ ks := fun q => by
      obtain ⟨e, he, hp⟩ := (h4.mem_iff (prog := prog) (w := w) k).mp (h5.mem_iff.mpr q)
      have q2 := List.findIdx?_eq_none_iff.mp hf e he
      rw [hp] at q2; cases q2
    dsimp only
    have hp := layNew_perm t es (hashInt k) (.int k tk)
    have hf2 := layNew_fits t es (hashInt k) (.int k tk)
    have ht := h8.layNew es (hashInt k) (.int k tk)
    show wpAny _ _ (match layNew t es (hashInt k) (Value.int k tk) with | (es, t, wasDummy, gave) => _) _ _ _
    generalize layNew t es (hashInt k) (.int k tk) = Z at hp hf2 ht ⊢
    obtain ⟨es1, t1, wd, c⟩ := Z
    dsimp only at hp hf2 ht ⊢
    rw [Array.toList_push] at hp
    have hz1 : es1.size = ks.length + 1 := by rw [← Array.length_toList, hp.length_eq, List.length_append, Array.length_toList, hz]; rfl
    have i1 : IntEs es1.toList := fun e he => by
      rcases List.mem_append.mp (hp.mem_iff.mp he) with q | q
      · exact h4 e q
      · rw [List.mem_singleton] at q; subst q; exact ⟨k, tk, rfl, rfl⟩
    have p1 : (es1.toList.map fun e => kOf e.2).Perm (ks ++ [k]) := by
      refine (hp.map _).trans ?_
      rw [List.map_append]
      exact h5.append_right _
    have fin : ∀ h', Heap.SameBut a s.heap h' → SetP b h' a (ks ++ [k]) → Q true { s with heap := h' } := fun h' sb y => by
      have z := h h' sb (by rw [if_neg hm]; exact y)
      rw [decide_eq_false hm] at z; exact z
    refine wpAny_bind (gave_ok c ?_)
    split
    · refine wpAny_bind ?_
      rw [hashByValue_scannable 8 (x := Value.int k tk) rfl]
      refine wpAny_pure ?_
      exact add_tail h1 h2 h3 i1 p1 (by rw [hz1]; exact hr) hf2 ht (fun h' sb y => wpAny_pure (fin h' sb y)) fun c s₁ Q' q => gave_ok c q
    · refine wpAny_bind (wpAny_pure ?_)
      simp only [↓reduceIte]
      exact add_tail h1 h2 h3 i1 p1 (by rw [hz1]; exact hr) hf2 ht (fun h' sb y => wpAny_pure (fin h' sb y)) fun c s₁ Q' q => gave_ok c q
end
end Bd
namespace Bd
open PySem PySem.Spec
def addK (ks : List Int) (k : Int) : List Int := if k ∈ ks then ks else ks ++ [k]
def uniq (ns : List Int) : List Int := ns.foldl addK []
section
variable {prog : Program} {w : World} {A : Around} {R : Result → Shared → Prop} {I : Addr} {fp wr : List Addr} {G : Array GenState → Array GenState → Prop} {P : Nat → Value → Prop} {St : Nat → Shared → Prop} {b : Bool}
end
section
variable {prog : Program} {w : World} {A : Around} {E : Value → Shared → Prop} {s : Shared}
abbrev ledOf (w : World) : Bool := !w.params.followText "set-order"
end
end Bd
namespace Bd
open PySem PySem.Spec
section
variable {prog : Program} {w : World} {A : Around} {E : Value → Shared → Prop} {s : Shared}
end
end Bd
namespace Bd
open PySem PySem.Spec
def ItAt (h : Heap) (I S : Addr) (f : Value) (i n ep : Nat) : Prop := ∃ o, h.get? I = some o ∧ o.cls = .type "set_iterator" ∧ o.data = .fields #[f, .int i 0, .ref S, .int n 0, .int ep 0]
theorem ItAt.typeIs {s : Shared} {I S : Addr} {f : Value} {i n ep : Nat} (x : ItAt s.heap I S f i n ep) : s.TypeIs (.ref I) "set_iterator" := let ⟨o, h, c, _⟩ := x; ⟨o, h, c⟩
structure SetAt (h : Heap) (S : Addr) (es : Array (Int × Value)) (ep : Nat) (t : SetTable) : Prop where
  ex : ∃ o, h.get? S = some o ∧ o.ExactSet ∧ o.data = .set es ep t
  fits : t.fits es.size = true
theorem SetAt.keep {h h' : Heap} {S : Addr} {es : Array (Int × Value)} {ep : Nat} {t : SetTable} (x : SetAt h S es ep t) (k : ∀ o, h.get? S = some o → h'.get? S = some o) : SetAt h' S es ep t :=
  let ⟨⟨o, h1, h2⟩, f⟩ := x; ⟨⟨o, k o h1, h2⟩, f⟩
section
variable {prog : Program} {w : World} {A : Around} {E : Value → Shared → Prop} {s : Shared} {I S : Addr} {es : Array (Int × Value)} {ep : Nat} {t : SetTable}
end
end Bd
namespace Bd
open PySem PySem.Spec
section
variable {prog : Program} {w : World} {A : Around} {E : Value → Shared → Prop} {s : Shared} {I S : Addr} {es : Array (Int × Value)} {ep : Nat} {t : SetTable}
end
end Bd
namespace Bd
open PySem PySem.Spec
section
variable {prog : Program} {w : World} {A : Around} {E : Value → Shared → Prop} {s : Shared} {I S : Addr} {es : Array (Int × Value)} {ep : Nat} {t : SetTable}
end
end Bd
namespace Bd
open PySem PySem.Spec
section
variable {prog : Program} {w : World} {A : Around} {E : Value → Shared → Prop} {s : Shared} {I S T : Addr} {es : Array (Int × Value)} {ep : Nat} {t : SetTable}
theorem ItAt.keep {h h' : Heap} {f : Value} {i n : Nat} (x : ItAt h I S f i n ep) (k : ∀ o, h.get? I = some o → h'.get? I = some o) : ItAt h' I S f i n ep := let ⟨o, h1, r⟩ := x; ⟨o, k o h1, r⟩
end
end Bd
namespace Bd
open PySem PySem.Spec
section
variable {prog : Program} {w : World} {A : Around} {E : Value → Shared → Prop} {s : Shared} {I S T : Addr} {es : Array (Int × Value)} {ep : Nat} {t : SetTable}
end
end Bd
namespace Bd
open PySem PySem.Spec PyProof.Rows
section
variable {prog : Program} {w : World} {A : Around} {E : Value → Shared → Prop} {s : Shared} {S : Addr} {ks : List Int}
end
end Bd
namespace Bd
open PySem L2
def SetO (w : World) (p : Addr) (ks : List Int) : HO := .ext fun h => SetP (ledOf w) h p ks
section
variable {X : Cx} {pins : List (Addr × Obj)} {σ : St} {H : Hp} {s s' : Shared}
end
end Bd
namespace Bd
open PySem PySem.Spec
def bst : Option Int → Int → Option Int
  | none, n => some n
  | some m, n => if m < n then some n else some m
def maxOpt (ns : List Int) : Option Int := ns.foldl bst none
def BestIs (b : Option Int) (acc : Array Value) : Prop := (b = none ∧ acc = #[]) ∨ ∃ m t, b = some m ∧ acc = #[.int m t, .int m t]
def BestVal (dv : Value) (b : Option Int) (v : Value) : Prop := (b = none ∧ v = dv) ∨ ∃ m t, b = some m ∧ v = .int m t
section
variable {prog : Program} {w : World} {A : Around} {R : Result → Shared → Prop} {I : Addr} {fp wr : List Addr} {G : Array GenState → Array GenState → Prop} {P : Nat → Value → Prop} {St : Nat → Shared → Prop}
theorem gt_ints {s : Shared} {E : Value → Shared → Prop} {Q : Value → Shared → Prop} {x y : Int} {t u : Tok} (h : Q (.bool (decide (x > y))) s) : wpAny (model prog w) A (richCompare .Gt (.int x t) (.int y u)) Q E s :=
  richCompare_gives (op := .Gt) (typeIs_int s _ t) (typeIs_int s _ u) PySem.F.slot_int_gt PySem.F.entry_int_gt (PySem.F.args_int_gt_2 _ _) (gives_int_gt _ _ t u) (fun x => nomatch x) h
theorem maxd_loop {ns : List Int} {dv : Value} (W : WalksS prog w A.in1 I fp wr G ns.length P St) (S : Addr) (hSf : S ∉ fp) (hv : ∀ i v, P i v → ∃ t, v = .int (ns.getD i 0) t) :
    ∀ (k i : Nat) (s : Shared) (acc : Array Value) (c : Nat) (b : Option Int), ns.length - i = k → i ≤ ns.length → St i s → BestIs b acc → s.heap.get? S = some { cls := .type "list", dict := none, data := .seq acc c, slots := #[] } →
      (∀ v s', BestVal dv ((ns.drop i).foldl bst b) v → Moved (S :: wr) G s s' → R (.ok (.ret v)) s') → codeAny (model prog w) A (.builtin "max.loop" ⟨[.ref I, .none, .ref S], [("default", dv)]⟩) R s := by
  have nSw : S ∉ wr := fun h => hSf (W.sub _ h)
  have sub : ∀ c ∈ wr, c ∈ S :: wr := fun c hc => List.mem_cons_of_mem _ hc
  have name : (toString "max" ++ toString ".loop" : String) = "max.loop" := by decide
  have notS : ∀ {c : Addr}, c ∉ S :: wr → S ≠ c := fun hc h => hc (by rw [h]; exact List.mem_cons_self)
  intro k
  induction k with
  | zero =>
    intro i s acc c b hk hi st hb hS hR
    have e : i = ns.length := by omega
    subst e
    rw [List.drop_length] at hR
    refine codeAny_builtin PySem.F.entry_max_loop ?_
    rw [Around.under_plainId PySem.F.plain_max_loop _]; show wpAny _ A.in1 (seqItems? (.ref S) >>= _) _ _ s
    refine wpAny_bind (wpAny_seqItems hS rfl ?_); show wpAny _ A.in1 (tryCatch (pyNext (.ref I)) _ >>= _) _ _ s
    refine wpAny_bind (wpAny_tryCatch (W.done s _ _ st fun s' hm => ?_))
    have hS' := hm.heap S _ nSw hS
    rcases hb with ⟨rfl, rfl⟩ | ⟨m, t, rfl, rfl⟩
    · show wpAny _ A.in1 (rule _ >>= fun _ => ret dv) _ _ _
      refine wpAny_bind (wpAny_rule (wpAny_pure ?_))
      exact hR dv s' (.inl ⟨rfl, rfl⟩) (hm.mono sub)
    · show wpAny _ A.in1 (updateSeq S (fun _ => #[]) >>= _) _ _ _
      refine wpAny_bind (wpAny_updateSeq hS' rfl (wpAny_bind (wpAny_letGo (wpAny_pure ?_))))
      exact hR _ _ (.inr ⟨m, t, rfl, rfl⟩) ((hm.mono sub).then_heap (tk := s'.toks) (Nat.le_refl _) fun c o hc e => (Heap.get?_update_other _ _ (notS hc)).trans e)
  | succ k ih =>
    intro i s acc c b hk hi st hb hS hR
    have lt : i < ns.length := by omega
    have hd : ns.drop i = ns.getD i 0 :: ns.drop (i + 1) := by
      rw [List.drop_eq_getElem_cons lt]; simp [lt]
    rw [hd, List.foldl_cons] at hR
    refine codeAny_builtin PySem.F.entry_max_loop ?_
    rw [Around.under_plainId PySem.F.plain_max_loop _]; show wpAny _ A.in1 (seqItems? (.ref S) >>= _) _ _ s
    refine wpAny_bind (wpAny_seqItems hS rfl ?_); show wpAny _ A.in1 (tryCatch (pyNext (.ref I)) _ >>= _) _ _ s
    refine wpAny_bind (wpAny_tryCatch (W.item i s _ _ lt st fun v s' hP st' hm => ?_))
    obtain ⟨tv, rfl⟩ := hv i v hP
    generalize ns.getD i 0 = n at hR ⊢
    have hS' := hm.heap S _ nSw hS
    have frame : ∀ (f : Array Value → Array Value), St (i + 1) { s' with heap := s'.heap.update S (Obj.mapSeq f) } := fun f => W.frame _ s' _ s'.toks st' (Nat.le_refl _) fun c hc o e => (Heap.get?_update_other _ _ (fun h : S = c => hSf (by rw [h]; exact hc))).trans e
    have moved : ∀ (f : Array Value → Array Value) (s'' : Shared), Moved (S :: wr) G { s' with heap := s'.heap.update S (Obj.mapSeq f) } s'' → Moved (S :: wr) G s s'' := fun f s'' hm'' =>
      Moved.trans W.gtrans ((hm.mono sub).then_heap (tk := s'.toks) (Nat.le_refl _) fun c o hc e => (Heap.get?_update_other _ _ (notS hc)).trans e) hm''
    rcases hb with ⟨rfl, rfl⟩ | ⟨m, t, rfl, rfl⟩
    · show wpAny _ A.in1 (updateSeq S (fun _ => #[Value.int n tv, Value.int n tv]) >>= _) _ _ _
      refine wpAny_bind (wpAny_updateSeq hS' rfl ?_)
      rw [name]
      exact wpAny_pure ⟨plainId_quiet PySem.F.plain_max_loop _, ih (i + 1) _ _ _ (some n) (by omega) lt (frame _) (.inr ⟨n, tv, rfl, rfl⟩) (Heap.get?_update_self _ hS' rfl) fun v s'' hq hm'' => hR v s'' hq (moved _ s'' hm'')⟩
    · show wpAny _ A.in1 (tryCatch (holding [Value.int n tv, Value.int n tv] (richCompare .Gt (Value.int n tv) (Value.int m t) >>= _)) _ >>= _) _ _ _
      refine wpAny_bind (wpAny_tryCatch (wpAny_holding (wpAny_bind (gt_ints (wpAny_bind (wpAny_holding (wpAny_truthy_bool (wpAny_bind (wpAny_letGo (wpAny_pure ?_))))))))))
      by_cases hc : m < n
      · rw [show decide (n > m) = true from decide_eq_true hc]
        simp only [if_true]
        refine wpAny_bind (wpAny_updateSeq hS' rfl (wpAny_bind (wpAny_letGo ?_)))
        rw [name]
        refine wpAny_pure ⟨plainId_quiet PySem.F.plain_max_loop _, ih (i + 1) _ _ _ (some n) (by omega) lt (frame _) (.inr ⟨n, tv, rfl, rfl⟩) (Heap.get?_update_self _ hS' rfl) fun v s'' hq hm'' => hR v s'' ?_ (moved _ s'' hm'')⟩
        rw [show bst (some m) n = some n from if_pos hc]; exact hq
      · rw [show decide (n > m) = false from decide_eq_false hc]
        simp only [Bool.false_eq_true, if_false]
        refine wpAny_bind (wpAny_letGo ?_)
        rw [name]
        refine wpAny_pure ⟨plainId_quiet PySem.F.plain_max_loop _, ih (i + 1) _ _ c (some m) (by omega) lt st' (.inr ⟨m, t, rfl, rfl⟩) hS' fun v s'' hq hm'' => hR v s'' ?_ (Moved.trans W.gtrans (hm.mono sub) hm'')⟩
        rw [show bst (some m) n = some m from if_neg hc]; exact hq
end
end Bd
namespace Bd
open PySem PySem.Spec
section
variable {prog : Program} {w : World} {A : Around} {E : Value → Shared → Prop} {s : Shared}
theorem args_maxd (a d : Value) : argsOk "max" ⟨[a], [("default", d)]⟩ := by unfold argsOk; kernel_rfl
theorem call_maxd {l : Addr} {items : Array Value} {ns : List Int} {dv : Value} {Q : Value → Shared → Prop} (hh : A.handled = none) (hl : s.heap.IsList l items) (hi : PyProof.Rows.IntsAre items.toList ns)
    (h : ∀ v (h' : Heap) (tk : Nat), BestVal dv (maxOpt ns) v → (∀ c o, s.heap.get? c = some o → h'.get? c = some o) → Q v { s with heap := h', toks := tk }) :
    wpAny (model prog w) A (call (.builtin "max") [.ref l] [("default", dv)]) Q E s := by
  have hsz : items.size = ns.length := by rw [← Array.length_toList]; exact hi.length
  have name : (toString "max" ++ toString ".loop" : String) = "max.loop" := by decide
  refine wpAny_call (codeAny_call_builtin PySem.F.plain_max PySem.F.entry_max ?_)
  simp only [checkBuiltinCall, PySem.F.kind_max]
  have key : wpAny (model prog w) A.in1 (Builtin.«max» ⟨[.ref l], [("default", dv)]⟩) (fun fin s' => match fin with
      | .done f => (match (Except.ok f : Result) with | .ok (.ret v) => Q v s' | .ok _ => False | .error e => E e s')
      | .again c' => c'.quiet = true ∧ codeAny (model prog w) A c' (fun r s' => match r with | .ok (.ret v) => Q v s' | .ok _ => False | .error e => E e s') s') E s := by
    show wpAny _ A.in1 (Builtin.Builtins.bindParams "max" ["key", "default"] 0 ⟨[], [("default", dv)]⟩ >>= _) _ _ s
    refine wpAny_bind (wpAny_of_eq (show Builtin.Builtins.bindParams "max" ["key", "default"] 0 ⟨[], [("default", dv)]⟩ = pure [none, some dv] from rfl) (wpAny_bind (wpAny_pure ?_)))
    refine wpAny_bind (wpAny_pyIter_list hl ?_)
    refine wpAny_bind (wpAny_newObj_type ?_)
    rw [name]
    have lt : l < s.heap.objs.size := let ⟨o, e, _⟩ := hl; Heap.lt_size e
    have W := (Walks.list (prog := prog) (w := w) (A := A.in1) hh s.heap.objs.size l (Nat.ne_of_lt lt) items).toS
    rw [hsz] at W
    have nf : (s.heap.push { cls := .type "list_iterator", data := .fields #[.ref l, .int 0 0] }).objs.size ∉ [s.heap.objs.size, l] := by
      rw [Heap.size_push]
      simp only [List.mem_cons, List.not_mem_nil, or_false, not_or]
      exact ⟨Nat.ne_of_gt (Nat.lt_succ_self _), Nat.ne_of_gt (Nat.lt_succ_of_lt lt)⟩
    refine wpAny_pure ⟨plainId_quiet PySem.F.plain_max_loop _, maxd_loop W _ nf (fun i v hv => PyProof.Rows.IntsAre.int_at hi i v (by rw [Array.getElem?_toList]; exact hv)) _ 0 _ #[] 0 none rfl (Nat.zero_le _)
      ⟨⟨_, Heap.get?_push_of_some _ (Heap.get?_push_size _ rfl), rfl, rfl⟩, (hl.push _).push _⟩ (.inl ⟨rfl, rfl⟩) (Heap.get?_push_size _ rfl) fun v s' hq hm => ?_⟩
    obtain ⟨h', g', d', tk', os'⟩ := s'
    obtain rfl : g' = s.gens := hm.gens
    obtain rfl : d' = s.drawn := hm.drawn
    obtain rfl : os' = s.os := hm.os
    refine h v h' tk' hq fun c o e => ?_
    have lc := Heap.lt_size e
    refine hm.heap c o ?_ (Heap.get?_push_of_some _ (Heap.get?_push_of_some _ e))
    rw [Heap.size_push]
    simp only [List.mem_cons, List.not_mem_nil, or_false, not_or]
    exact ⟨Nat.ne_of_lt (Nat.lt_succ_of_lt lc), Nat.ne_of_lt lc⟩
  have ha := args_maxd (.ref l) dv
  cases hsig : Manifest.signature? "max" with
  | none => exact wpAny_pure key
  | some sig =>
    simp only [argsOk, hsig] at ha
    have h2 : Bind.checkArgs "max" sig ⟨[.ref l], [("default", dv)]⟩ = pure () := ha
    show wpAny _ A.in1 (Bind.checkArgs "max" sig ⟨[.ref l], [("default", dv)]⟩) _ _ s
    rw [h2]; exact wpAny_pure key
end
end Bd
namespace Bd
open PySem L2
section
variable {X : Cx}
def tMaxD (K : PySem.W.Frag) (ta td : TE) : TE := fun σ H Q => ta σ H fun x H1 => td σ H1 fun d H2 => ∃ (a : Addr) (ns : List Int), x = .ref a ∧ SqL K H2 a (ns.map V.int) ∧ Q (match maxOpt ns with | none => d | some m => .int m) H2
def maxEnd (K : PySem.W.Frag) (v : V) (Q : VK) : List V → Hp → Prop := fun zs H2 => match zs with
  | [d] => ∃ (a : Addr) (ns : List Int), v = .ref a ∧ SqL K H2 a (ns.map V.int) ∧ Q (match maxOpt ns with | none => d | some m => .int m) H2
  | _ => False
def maxCont (K : PySem.W.Frag) (td : TE) (σ : St) (Q : VK) : List V → Hp → Prop := fun vs H1 => match vs with
  | [v] => tCons td tNil σ H1 (maxEnd K v Q)
  | _ => False
theorem pe_maxd {e ed : Expr} {p pos kp : Pos} {ta td : TE} (hm : X.mg "max" = none) (hg : Gl X "max") (hc : X.calm = true) (ha : PE X e ta) (hd : PE X ed td) (he : starEach [e] X.env = (false, eval e X.env) :: starEach [] X.env := by rfl) :
    PE X (.Call (.Name "max" p) [e] [⟨some "default", ed, kp⟩] pos) (tMaxD X.K ta td) := by
  intro pins s σ H Q I h
  refine wpAny_Call_Name_kw (ld_blt (u := .builtin "max") I hg hm (by decide +kernel) ?_)
  refine PyProof.Rows.callWith_kw (id := "max") (e := e) (rest := []) (thn (pa_cons ha pa_nil he pos pins s σ H (maxCont X.K td σ Q) I h) fun us s1 ⟨vs, H1, I1, r1, q1⟩ => ?_) (by rw [he]; rfl) (by rw [he]; rfl)
  match vs, r1, q1 with
  | [v], .cons rv .nil, q1 =>
    refine thn (pk_cons hd pk_nil pos pins s1 σ H1 (maxEnd X.K v Q) I1 q1) fun ws s2 ⟨zs, H2, I2, r2, q2⟩ => ?_
    match zs, r2, q2 with
    | [d], .cons rd .nil, ⟨a, ns, ev, hs, q⟩ =>
      subst ev
      cases rv
      obtain ⟨its, rvs, hl, _⟩ := I2.list hs
      refine call_maxd (I2.ok.hd hc) hl.isList (by simpa using rvs.ints) fun v h' tk hb k => ?_
      rcases hb with ⟨e1, rfl⟩ | ⟨m, t, e1, rfl⟩
      · rw [e1] at q
        exact ⟨d, H2, I2.kept k, rd, q⟩
      · rw [e1] at q
        exact ⟨.int m, H2, I2.kept k, ⟨t, rfl⟩, q⟩
end
end Bd
namespace L2
open PySem
theorem same_sqT {K : PySem.W.Frag} {H H' : Hp} {a : Addr} {xs : List V} (e : Same H H') (h : SqT K H a xs) : SqT K H' a xs := by
  rcases h with (h | ⟨o, h⟩) | h
  · exact .inl (.inl (e _ _ h))
  · exact .inl (.inr ⟨o, e _ _ h⟩)
  · exact .inr h
mutual
theorem dp_mono {K : PySem.W.Frag} {H H' : Hp} (e : Same H H') : ∀ {v : V} {d : PyData}, Dp K H v d → Dp K H' v d
  | _, _, .non => .non
  | _, _, .bl b => .bl b
  | _, _, .int i => .int i
  | _, _, .str x => .str x
  | _, _, .lst h ha => .lst (e.seq h) (dpAll_mono e ha)
  | _, _, .tup h ha => .tup (same_sqT e h) (dpAll_mono e ha)
  | _, _, .dic h => .dic (e _ _ h)
  | _, _, .dis h l ha => .dis (h.imp (e _ _) fun ⟨o, z⟩ => ⟨o, e _ _ z⟩) l (dpAll_mono e ha)
theorem dpAll_mono {K : PySem.W.Frag} {H H' : Hp} (e : Same H H') : ∀ {vs : List V} {ds : List PyData}, DpAll K H vs ds → DpAll K H' vs ds
  | _, _, .nil => .nil
  | _, _, .cons h ha => .cons (dp_mono e h) (dpAll_mono e ha)
end
theorem DpAll.length {K : PySem.W.Frag} {H : Hp} : ∀ {vs : List V} {ds : List PyData}, DpAll K H vs ds → vs.length = ds.length
  | _, _, .nil => rfl
  | _, _, .cons _ h => by rw [List.length_cons, List.length_cons, DpAll.length h]
theorem DpAll.get {K : PySem.W.Frag} {H : Hp} : ∀ {vs : List V} {ds : List PyData} {i : Nat} {v : V}, DpAll K H vs ds → vs[i]? = some v → ∃ d, ds[i]? = some d ∧ Dp K H v d
  | _, _, _, _, .nil, e => by simp at e
  | _, _, 0, _, .cons h _, e => by simp at e; subst e; exact ⟨_, rfl, h⟩
  | _, _, i + 1, v, .cons _ t, e => by
    obtain ⟨d, h1, h2⟩ := DpAll.get (i := i) (v := v) t (by simpa using e)
    exact ⟨d, by simpa using h1, h2⟩
theorem DpAll.get' {K : PySem.W.Frag} {H : Hp} : ∀ {vs : List V} {ds : List PyData} {i : Nat} {d : PyData}, DpAll K H vs ds → ds[i]? = some d → ∃ v, vs[i]? = some v ∧ Dp K H v d
  | _, _, _, _, .nil, e => by simp at e
  | _, _, 0, _, .cons h _, e => by simp at e; subst e; exact ⟨_, rfl, h⟩
  | _, _, i + 1, v, .cons _ t, e => by
    obtain ⟨d, h1, h2⟩ := DpAll.get' (i := i) (d := v) t (by simpa using e)
    exact ⟨d, by simpa using h1, h2⟩
theorem DpAll.append {K : PySem.W.Frag} {H : Hp} : ∀ {vs ws : List V} {ds es : List PyData}, DpAll K H vs ds → DpAll K H ws es → DpAll K H (vs ++ ws) (ds ++ es)
  | _, _, _, _, .nil, h => h
  | _, _, _, _, .cons a b, h => .cons a (DpAll.append b h)
theorem DpAll.snoc {K : PySem.W.Frag} {H : Hp} {vs : List V} {ds : List PyData} {v : V} {d : PyData} (h : DpAll K H vs ds) (k : Dp K H v d) : DpAll K H (vs ++ [v]) (ds ++ [d]) := h.append (.cons k .nil)
theorem DpAll.take {K : PySem.W.Frag} {H : Hp} : ∀ {vs : List V} {ds : List PyData} (n : Nat), DpAll K H vs ds → DpAll K H (vs.take n) (ds.take n)
  | _, _, 0, _ => .nil
  | _, _, _ + 1, .nil => .nil
  | _, _, n + 1, .cons r t => .cons r (DpAll.take n t)
theorem DpAll.drop {K : PySem.W.Frag} {H : Hp} : ∀ {vs : List V} {ds : List PyData} (n : Nat), DpAll K H vs ds → DpAll K H (vs.drop n) (ds.drop n)
  | _, _, 0, r => r
  | _, _, _ + 1, .nil => .nil
  | _, _, n + 1, .cons _ t => DpAll.drop n t
theorem DpAll.set {K : PySem.W.Frag} {H : Hp} {v : V} {d : PyData} (k : Dp K H v d) : ∀ {vs : List V} {ds : List PyData} (i : Nat), DpAll K H vs ds → DpAll K H (vs.set i v) (ds.set i d)
  | _, _, _, .nil => .nil
  | _, _, 0, .cons _ t => .cons k t
  | _, _, i + 1, .cons q t => .cons q (DpAll.set k i t)
theorem DpAll.ints {K : PySem.W.Frag} {H : Hp} : ∀ {vs : List V} {ns : List Int}, DpAll K H vs (ns.map PyData.int) → vs = ns.map V.int
  | _, [], .nil => rfl
  | _, n :: ns, .cons h t => by cases h; rw [DpAll.ints t]; rfl
theorem DpAll.bls {K : PySem.W.Frag} {H : Hp} : ∀ {vs : List V} {ns : List Bool}, DpAll K H vs (ns.map PyData.bool) → vs = ns.map V.bl
  | _, [], .nil => rfl
  | _, n :: ns, .cons h t => by cases h; rw [DpAll.bls t]; rfl
theorem dpAll_ints {K : PySem.W.Frag} {H : Hp} : ∀ (ns : List Int), DpAll K H (ns.map V.int) (ns.map PyData.int)
  | [] => .nil
  | n :: ns => .cons (.int n) (dpAll_ints ns)
end L2
namespace Bd
open PySem L2
noncomputable section
theorem big_ex (n : Nat) : ∃ x, x = n := ⟨n, rfl⟩
def big (n : Nat) : Nat := Classical.choose (big_ex n)
theorem big_eq (n : Nat) : big n = n := Classical.choose_spec (big_ex n)
inductive Sl where
  | fz (d : PyData) | ow (xs : List PyData)
abbrev En := List (Option Sl)
def Sl.d : Sl → PyData
  | .fz d => d
  | .ow xs => .list xs
def SlV (K : PySem.W.Frag) (F H : Hp) : Sl → V → Prop
  | .fz d, v => Dp K F v d
  | .ow xs, v => ∃ a vs, v = .ref a ∧ F a = none ∧ H a = some (.lst vs) ∧ DpAll K F vs xs
def LkV (K : PySem.W.Frag) (F H : Hp) (v : V) (d : PyData) : Prop := Dp K F v d ∨ ∃ a vs xs, v = .ref a ∧ d = .list xs ∧ F a = none ∧ H a = some (.lst vs) ∧ DpAll K F vs xs
structure Sub (F H F' H' : Hp) : Prop where
  f : Same F F'
  h : Same H H'
  fh : Same F' H'
  o : ∀ a o, H a = some o → F a = none → F' a = none
theorem Sub.refl {F H : Hp} (h : Same F H) : Sub F H F H := ⟨.refl _, .refl _, h, fun _ _ _ h => h⟩
theorem Sub.trans {F H F1 H1 F2 H2 : Hp} (a : Sub F H F1 H1) (b : Sub F1 H1 F2 H2) : Sub F H F2 H2 :=
  ⟨a.f.trans b.f, a.h.trans b.h, b.fh, fun c o h1 h2 => b.o c o (a.h c o h1) (a.o c o h1 h2)⟩
theorem same_upd {F H : Hp} {p : Addr} {o : HO} (h : Same F H) : Same (upd F p o) (upd H p o) := fun b u e => by
  by_cases hb : b = p
  · subst hb; rw [upd_same] at e ⊢; exact e
  · rw [upd_ne hb] at e ⊢; exact h b u e
theorem same_new {H : Hp} {p : Addr} {o : HO} (h : H p = none) : Same H (upd H p o) := fun b u e => by
  rw [upd_ne (ne_of_none e h)]; exact e
theorem Sub.newF {F H : Hp} {p : Addr} {o : HO} (h : Same F H) (hp : H p = none) : Sub F H (upd F p o) (upd H p o) :=
  ⟨same_new (h.free hp), same_new hp, same_upd h, fun a u h1 h2 => by rw [upd_ne (ne_of_none h1 hp)]; exact h2⟩
theorem Sub.newO {F H : Hp} {p : Addr} {o : HO} (h : Same F H) (hp : H p = none) : Sub F H F (upd H p o) :=
  ⟨.refl _, same_new hp, h.trans (same_new hp), fun a u h1 h2 => h2⟩
theorem SlV.mono {K : PySem.W.Frag} {F H F' H' : Hp} {s : Sl} {v : V} (u : Sub F H F' H') (h : SlV K F H s v) : SlV K F' H' s v := by
  cases s with
  | fz d => exact dp_mono u.f h
  | ow xs =>
    obtain ⟨a, vs, rfl, h1, h2, h3⟩ := h
    exact ⟨a, vs, rfl, u.o a _ h2 h1, u.h _ _ h2, dpAll_mono u.f h3⟩
theorem LkV.mono {K : PySem.W.Frag} {F H F' H' : Hp} {d : PyData} {v : V} (u : Sub F H F' H') (h : LkV K F H v d) : LkV K F' H' v d := by
  rcases h with h | ⟨a, vs, xs, rfl, rfl, h1, h2, h3⟩
  · exact .inl (dp_mono u.f h)
  · exact .inr ⟨a, vs, xs, rfl, rfl, u.o a _ h2 h1, u.h _ _ h2, dpAll_mono u.f h3⟩
theorem SlV.lk {K : PySem.W.Frag} {F H : Hp} {s : Sl} {v : V} (h : SlV K F H s v) : LkV K F H v s.d := by
  cases s with
  | fz d => exact .inl h
  | ow xs =>
    obtain ⟨a, vs, rfl, h1, h2, h3⟩ := h
    exact .inr ⟨a, vs, xs, rfl, rfl, h1, h2, h3⟩
theorem LkV.list {K : PySem.W.Frag} {F H : Hp} {v : V} {xs : List PyData} (fh : Same F H) (h : LkV K F H v (.list xs)) : ∃ a vs, v = .ref a ∧ SqL K H a vs ∧ DpAll K F vs xs := by
  rcases h with h | ⟨a, vs, ys, rfl, e, h1, h2, h3⟩
  · cases h with
    | lst h ha => exact ⟨_, _, rfl, fh.seq h, ha⟩
  · cases e; exact ⟨a, vs, rfl, SqL.of h2, h3⟩
theorem LkV.tuple {K : PySem.W.Frag} {F H : Hp} {v : V} {xs : List PyData} (fh : Same F H) (h : LkV K F H v (.tuple xs)) : ∃ a vs, v = .ref a ∧ SqT K H a vs ∧ DpAll K F vs xs := by
  rcases h with h | ⟨a, vs, ys, rfl, e, h1, h2, h3⟩
  · cases h with
    | tup h ha => exact ⟨_, _, rfl, same_sqT fh h, ha⟩
  · cases e
theorem LkV.dp {K : PySem.W.Frag} {F H : Hp} {v : V} {d : PyData} (fh : Same F H) (h : LkV K F H v d) : Dp K H v d := by
  rcases h with h | ⟨a, vs, ys, rfl, rfl, h1, h2, h3⟩
  · exact dp_mono fh h
  · exact .lst (SqL.of h2) (dpAll_mono fh h3)
theorem LkV.int {K : PySem.W.Frag} {F H : Hp} {v : V} {i : Int} (h : LkV K F H v (.int i)) : v = .int i := by
  rcases h with h | ⟨a, vs, ys, rfl, e, _⟩
  · cases h; rfl
  · cases e
theorem LkV.bl {K : PySem.W.Frag} {F H : Hp} {v : V} {i : Bool} (h : LkV K F H v (.bool i)) : v = .bl i := by
  rcases h with h | ⟨a, vs, ys, rfl, e, _⟩
  · cases h; rfl
  · cases e
theorem LkV.str {K : PySem.W.Frag} {F H : Hp} {v : V} {i : Str} (h : LkV K F H v (.str i)) : v = .str i := by
  rcases h with h | ⟨a, vs, ys, rfl, e, _⟩
  · cases h; rfl
  · cases e
theorem LkV.non {K : PySem.W.Frag} {F H : Hp} {v : V} (h : LkV K F H v .none) : v = .non := by
  rcases h with h | ⟨a, vs, ys, rfl, e, _⟩
  · cases h; rfl
  · cases e
structure EnR (K : PySem.W.Frag) (H0 F H : Hp) (Γ : En) (σ : St) : Prop where
  fh : Same F H
  sl : ∀ (i : Nat) (s : Sl), Γ[i]? = some (some s) → ∃ v, σ[i]? = some (some v) ∧ SlV K F H s v
  nw : ∀ (i : Nat) (xs : List PyData) (a : Addr), Γ[i]? = some (some (.ow xs)) → σ[i]? = some (some (.ref a)) → H0 a = none
  ds : ∀ (i j : Nat) (xs ys : List PyData) (a : Addr), Γ[i]? = some (some (.ow xs)) → Γ[j]? = some (some (.ow ys)) → σ[i]? = some (some (.ref a)) → σ[j]? = some (some (.ref a)) → i = j
  ln : Γ.length = σ.length
theorem EnR.mono {K : PySem.W.Frag} {H0 F H F' H' : Hp} {Γ : En} {σ : St} (E : EnR K H0 F H Γ σ) (u : Sub F H F' H') : EnR K H0 F' H' Γ σ :=
  ⟨u.fh, fun i s h => by obtain ⟨v, h1, h2⟩ := E.sl i s h; exact ⟨v, h1, h2.mono u⟩, E.nw, E.ds, E.ln⟩
structure Sx where
  P : Program
  w : World
  K : PySem.W.Frag
  mg : Str → Option Value
  base : Heap
  N : List Str
  sc : Scope
  k : Nat
  fn : Str → Bool
structure Sx.Ok (S : Sx) (X : Cx) : Prop where
  P : X.prog = S.P
  w : X.w = S.w
  K : X.K = S.K
  mg : X.mg = S.mg
  base : X.base = S.base
  N : X.N = S.N
  sc : X.env.scope = S.sc
  room : Room S.k X.A
  calm : X.calm = true
  nd : S.N.Nodup
  fn : X.fn = S.fn
  pass : PassesOwn (model X.prog X.w) X.A X.env X.xe
def visB (sc : Scope) (x : Str) : Bool := match sc.names.lookup x with
  | some .local => true
  | some .cell => true
  | some .free => true
  | _ => false
theorem vis_of {sc : Scope} {x : Str} (h : visB sc x = true) : Vis sc x := by
  unfold visB at h
  split at h
  · exact .inl (by assumption)
  · exact .inr (.inl (by assumption))
  · exact .inr (.inr (by assumption))
  · cases h
def locB (sc : Scope) (x : Str) : Bool := match sc.names.lookup x with
  | some .local => true
  | some .cell => true
  | _ => false
theorem loc_of {sc : Scope} {x : Str} (h : locB sc x = true) : Loc sc x := by
  unfold locB at h
  split at h
  · exact .inl (by assumption)
  · exact .inr (by assumption)
  · cases h
def glB (sc : Scope) (x : Str) : Bool := match sc.names.lookup x with
  | some .globalImplicit => true
  | _ => false
theorem Sx.Ok.gl {S : Sx} {X : Cx} (ok : S.Ok X) {x : Str} (h : glB S.sc x = true) : Gl X x := by
  show X.env.scope.names.lookup x = some .globalImplicit
  rw [ok.sc]
  unfold glB at h
  split at h
  · assumption
  · cases h
def SlN (K : PySem.W.Frag) (H F' H' : Hp) (s : Sl) (v : V) : Prop := SlV K F' H' s v ∧ ∀ xs a, s = .ow xs → v = .ref a → H a = none
def SE (S : Sx) (e : Expr) (f : En → Option Sl) : Prop :=
  ∃ t : TE, (∀ X, S.Ok X → PE X e t) ∧ ∀ Γ σ H0 F H Q s, EnR S.K H0 F H Γ σ → f Γ = some s → (∀ v F' H', Sub F H F' H' → SlN S.K H F' H' s v → Q v H') → t σ H Q
def SL (S : Sx) (e : Expr) (f : En → Option PyData) : Prop :=
  ∃ t : TE, (∀ X, S.Ok X → PE X e t) ∧ ∀ Γ σ H0 F H Q d, EnR S.K H0 F H Γ σ → f Γ = some d → (∀ v F' H', Sub F H F' H' → LkV S.K F' H' v d → Q v H') → t σ H Q
def SV (S : Sx) (e : Expr) (f : En → Option PyData) : Prop :=
  ∃ t : TE, (∀ X, S.Ok X → PE X e t) ∧ ∀ Γ σ H0 F H Q d, EnR S.K H0 F H Γ σ → f Γ = some d → (∀ v F' H', Sub F H F' H' → Dp S.K F' v d → Q v H') → t σ H Q
def ST (S : Sx) (e : Expr) (f : En → Option Bool) : Prop :=
  ∃ t : TT, (∀ X, S.Ok X → PT X e t) ∧ ∀ Γ σ H0 F H Q b, EnR S.K H0 F H Γ σ → f Γ = some b → (∀ F' H', Sub F H F' H' → Q b H') → t σ H Q
def SW (S : Sx) (e : Expr) (f : En → Option Bool) : Prop :=
  ∃ t : TT, (∀ X, S.Ok X → PW X e t) ∧ ∀ Γ σ H0 F H Q b, EnR S.K H0 F H Γ σ → f Γ = some b → (∀ F' H', Sub F H F' H' → Q b H') → t σ H Q
inductive LkA (K : PySem.W.Frag) (F H : Hp) : List V → List PyData → Prop
  | nil : LkA K F H [] []
  | cons {v : V} {vs : List V} {d : PyData} {ds : List PyData} : LkV K F H v d → LkA K F H vs ds → LkA K F H (v :: vs) (d :: ds)
def SAL (S : Sx) (es : List Expr) (f : En → Option (List PyData)) : Prop :=
  ∃ t : TA, (∀ X, S.Ok X → PA X es t) ∧ ∀ Γ σ H0 F H Q ds, EnR S.K H0 F H Γ σ → f Γ = some ds → (∀ vs F' H', Sub F H F' H' → LkA S.K F' H' vs ds → Q vs H') → t σ H Q
def SAV (S : Sx) (es : List Expr) (f : En → Option (List PyData)) : Prop :=
  ∃ t : TA, (∀ X, S.Ok X → PA X es t) ∧ ∀ Γ σ H0 F H Q ds, EnR S.K H0 F H Γ σ → f Γ = some ds → (∀ vs F' H', Sub F H F' H' → DpAll S.K F' vs ds → Q vs H') → t σ H Q
def dOf (f : En → Option Sl) : En → Option PyData := fun Γ => (f Γ).map Sl.d
def fzOf (f : En → Option PyData) : En → Option Sl := fun Γ => (f Γ).map Sl.fz
section
variable {S : Sx} {e : Expr}
theorem SE.l {f : En → Option Sl} (h : SE S e f) : SL S e (dOf f) := by
  obtain ⟨t, h1, h2⟩ := h
  refine ⟨t, h1, fun Γ σ H0 F H Q d E hf k => ?_⟩
  unfold dOf at hf
  cases q : f Γ with
  | none => rw [q] at hf; cases hf
  | some s =>
    rw [q] at hf; cases hf
    exact h2 Γ σ H0 F H Q s E q fun v F' H' u r => k v F' H' u r.1.lk
theorem SE.v {f : En → Option Sl} (h : SE S e f) : SV S e (dOf f) := by
  obtain ⟨t, h1, h2⟩ := h
  refine ⟨t, h1, fun Γ σ H0 F H Q d E hf k => ?_⟩
  unfold dOf at hf
  cases q : f Γ with
  | none => rw [q] at hf; cases hf
  | some s =>
    rw [q] at hf; cases hf
    refine h2 Γ σ H0 F H Q s E q fun v F' H' u r => ?_
    cases s with
    | fz d => exact k v F' H' u r.1
    | ow xs =>
      obtain ⟨⟨a, vs, rfl, r1, r2, r3⟩, r4⟩ := r
      have ha := r4 xs a rfl rfl
      refine k _ (upd F' a (.lst vs)) H' ⟨u.f.trans (same_new r1), u.h, fun b o e => ?_, fun b o e1 e2 => ?_⟩ (.lst (SqL.of upd_same) (dpAll_mono (same_new r1) r3))
      · by_cases hb : b = a
        · subst hb; rw [upd_same] at e; cases e; exact r2
        · rw [upd_ne hb] at e; exact u.fh b o e
      · rw [upd_ne (ne_of_none e1 ha)]; exact u.o b o e1 e2
theorem SV.l {f : En → Option PyData} (h : SV S e f) : SL S e f := by
  obtain ⟨t, h1, h2⟩ := h
  exact ⟨t, h1, fun Γ σ H0 F H Q d E hf k => h2 Γ σ H0 F H Q d E hf fun v F' H' u r => k v F' H' u (.inl r)⟩
theorem SV.en {f : En → Option PyData} (h : SV S e f) : SE S e (fzOf f) := by
  obtain ⟨t, h1, h2⟩ := h
  refine ⟨t, h1, fun Γ σ H0 F H Q s E hf k => ?_⟩
  unfold fzOf at hf
  cases q : f Γ with
  | none => rw [q] at hf; cases hf
  | some d =>
    rw [q] at hf; cases hf
    exact h2 Γ σ H0 F H Q d E q fun v F' H' u r => k v F' H' u ⟨r, fun _ _ z => by cases z⟩
def gSl (i : Nat) : En → Option PyData := fun Γ => match Γ[i]? with
  | some (some s) => some s.d
  | _ => none
def gFz (i : Nat) : En → Option PyData := fun Γ => match Γ[i]? with
  | some (some (.fz d)) => some d
  | _ => none
theorem sl_var (i : Nat) {x : Str} {pos : Pos} (hN : S.N[i]? = some x := by rfl) (hv : visB S.sc x = true := by kernel_rfl) (hd : (x == ("__debug__" : Str)) = false := by decide) (hcd : (x == ("__classdict__" : Str)) = false := by decide) : SL S (.Name x pos) (gSl i) := by
  refine ⟨tVar i, fun X ok => pe_var (by rw [ok.N]; exact hN) (by rw [ok.sc]; exact vis_of hv) hd hcd, fun Γ σ H0 F H Q d E hf k => ?_⟩
  unfold gSl at hf
  split at hf
  · next s q =>
    cases hf
    obtain ⟨v, h1, h2⟩ := E.sl i s q
    exact ⟨v, h1, k v F H (.refl E.fh) h2.lk⟩
  · cases hf
theorem sv_var (i : Nat) {x : Str} {pos : Pos} (hN : S.N[i]? = some x := by rfl) (hv : visB S.sc x = true := by kernel_rfl) (hd : (x == ("__debug__" : Str)) = false := by decide) (hcd : (x == ("__classdict__" : Str)) = false := by decide) : SV S (.Name x pos) (gFz i) := by
  refine ⟨tVar i, fun X ok => pe_var (by rw [ok.N]; exact hN) (by rw [ok.sc]; exact vis_of hv) hd hcd, fun Γ σ H0 F H Q d E hf k => ?_⟩
  unfold gFz at hf
  split at hf
  · next s q =>
    cases hf
    obtain ⟨v, h1, h2⟩ := E.sl i _ q
    exact ⟨v, h1, k v F H (.refl E.fh) h2⟩
  · cases hf
def kC (d : PyData) : En → Option PyData := fun _ => some d
theorem sv_int {i j pos} : SV S (.Constant (.int i) j pos) (kC (.int i)) := ⟨_, fun X _ => pe_int, fun Γ σ H0 F H Q d E hf k => by cases hf; exact k _ F H (.refl E.fh) (.int _)⟩
theorem sv_bl {b j pos} : SV S (.Constant (.bool b) j pos) (kC (.bool b)) := ⟨_, fun X _ => pe_bl, fun Γ σ H0 F H Q d E hf k => by cases hf; exact k _ F H (.refl E.fh) (.bl _)⟩
def aNil : En → Option (List PyData) := fun _ => some []
def aCons (f : En → Option PyData) (g : En → Option (List PyData)) : En → Option (List PyData) := fun Γ => (f Γ).bind fun d => (g Γ).map (d :: ·)
theorem LkA.mono {K : PySem.W.Frag} {F H F' H' : Hp} (u : Sub F H F' H') : ∀ {vs : List V} {ds : List PyData}, LkA K F H vs ds → LkA K F' H' vs ds
  | _, _, .nil => .nil
  | _, _, .cons h t => .cons (h.mono u) (LkA.mono u t)
theorem sal_nil : SAL S [] aNil := ⟨tNil, fun X _ => pa_nil, fun Γ σ H0 F H Q d E hf k => by cases hf; exact k _ F H (.refl E.fh) .nil⟩
theorem sav_nil : SAV S [] aNil := ⟨tNil, fun X _ => pa_nil, fun Γ σ H0 F H Q d E hf k => by cases hf; exact k _ F H (.refl E.fh) .nil⟩
theorem sal_cons {es : List Expr} {f g} (h1 : SL S e f) (h2 : SAL S es g) (hs : ∀ X : Cx, starEach (e :: es) X.env = (false, eval e X.env) :: starEach es X.env := by intro _; rfl) : SAL S (e :: es) (aCons f g) := by
  obtain ⟨t, a1, a2⟩ := h1
  obtain ⟨u, b1, b2⟩ := h2
  refine ⟨tCons t u, fun X ok => pa_cons (a1 X ok) (b1 X ok) (hs X), fun Γ σ H0 F H Q ds E hf k => ?_⟩
  unfold aCons at hf
  cases q : f Γ with
  | none => rw [q] at hf; cases hf
  | some d =>
    rw [q] at hf
    cases q2 : g Γ with
    | none => rw [q2] at hf; cases hf
    | some r =>
      rw [q2] at hf; cases hf
      refine a2 Γ σ H0 F H _ d E q fun v F1 H1 u1 l1 => ?_
      exact b2 Γ σ H0 F1 H1 _ r (E.mono u1) q2 fun vs F2 H2 u2 l2 => k _ F2 H2 (u1.trans u2) (.cons (l1.mono u2) l2)
theorem sav_cons {es : List Expr} {f g} (h1 : SV S e f) (h2 : SAV S es g) (hs : ∀ X : Cx, starEach (e :: es) X.env = (false, eval e X.env) :: starEach es X.env := by intro _; rfl) : SAV S (e :: es) (aCons f g) := by
  obtain ⟨t, a1, a2⟩ := h1
  obtain ⟨u, b1, b2⟩ := h2
  refine ⟨tCons t u, fun X ok => pa_cons (a1 X ok) (b1 X ok) (hs X), fun Γ σ H0 F H Q ds E hf k => ?_⟩
  unfold aCons at hf
  cases q : f Γ with
  | none => rw [q] at hf; cases hf
  | some d =>
    rw [q] at hf
    cases q2 : g Γ with
    | none => rw [q2] at hf; cases hf
    | some r =>
      rw [q2] at hf; cases hf
      refine a2 Γ σ H0 F H _ d E q fun v F1 H1 u1 l1 => ?_
      exact b2 Γ σ H0 F1 H1 _ r (E.mono u1) q2 fun vs F2 H2 u2 l2 => k _ F2 H2 (u1.trans u2) (.cons (dp_mono u2.f l1) l2)
def cap : Nat := big 65536
theorem cap_eq : cap = 65536 := big_eq _
theorem cap_le {n : Nat} (h : n ≤ cap) : n ≤ sizeLine := Nat.le_trans h (by rw [cap_eq]; decide)
theorem cap_lt {n : Nat} (h : n < cap) : n < sizeLine := Nat.lt_of_lt_of_le h (by rw [cap_eq]; decide)
def dLst (f : En → Option (List PyData)) : En → Option Sl := fun Γ => (f Γ).bind fun ds => if ds.length ≤ cap then some (.ow ds) else none
def dTup (f : En → Option (List PyData)) : En → Option Sl := fun Γ => (f Γ).bind fun ds => if ds.length ≤ cap then some (.fz (.tuple ds)) else none
theorem SlN.lst {K : PySem.W.Frag} {F H : Hp} {p : Addr} {vs : List V} {xs : List PyData} (fh : Same F H) (hp : H p = none) (h : DpAll K F vs xs) : SlN K H F (upd H p (.lst vs)) (.ow xs) (.ref p) :=
  ⟨⟨p, vs, rfl, fh.free hp, upd_same, h⟩, fun _ a _ e => by cases e; exact hp⟩
theorem SlN.weak {K : PySem.W.Frag} {H H1 F' H' : Hp} {s : Sl} {v : V} (e : Same H H1) (h : SlN K H1 F' H' s v) : SlN K H F' H' s v := ⟨h.1, fun xs a h1 h2 => e.free (h.2 xs a h1 h2)⟩
theorem se_lst {es : List Expr} {pos f} (h : SAV S es f) : SE S (.List es pos) (dLst f) := by
  obtain ⟨t, a1, a2⟩ := h
  refine ⟨tLst t, fun X ok => pe_lst (a1 X ok), fun Γ σ H0 F H Q s E hf k => ?_⟩
  unfold dLst at hf
  cases q : f Γ with
  | none => rw [q] at hf; cases hf
  | some ds =>
    rw [q] at hf
    simp only [Option.bind_some] at hf
    split at hf
    · next hl =>
      cases hf
      refine a2 Γ σ H0 F H _ ds E q fun vs F1 H1 u1 l1 => ⟨by rw [l1.length]; exact cap_le hl, fun p hp => ?_⟩
      exact k _ F1 _ (u1.trans (.newO u1.fh hp)) ((SlN.lst u1.fh hp l1).weak u1.h)
    · cases hf
theorem se_tup {es : List Expr} {j pos f} (h : SAV S es f) : SE S (.Tuple es j pos) (dTup f) := by
  obtain ⟨t, a1, a2⟩ := h
  refine ⟨tTup t, fun X ok => pe_tup (a1 X ok), fun Γ σ H0 F H Q s E hf k => ?_⟩
  unfold dTup at hf
  cases q : f Γ with
  | none => rw [q] at hf; cases hf
  | some ds =>
    rw [q] at hf
    simp only [Option.bind_some] at hf
    split at hf
    · next hl =>
      cases hf
      refine a2 Γ σ H0 F H _ ds E q fun vs F1 H1 u1 l1 => ⟨by rw [l1.length]; exact cap_le hl, fun p hp => ?_⟩
      exact k _ (upd F1 p (.tup vs)) _ (u1.trans (.newF u1.fh hp)) ⟨.tup (SqT.of upd_same) (dpAll_mono (same_new (u1.fh.free hp)) l1), fun _ _ z => by cases z⟩
    · cases hf
def OpS (S : Sx) (f : Value → Value → Sem Value) (p : PyData → PyData → Option Sl) : Prop :=
  ∃ r : R2, (∀ X, S.Ok X → OpR X f r) ∧ ∀ F H x y d e Q s, Same F H → LkV S.K F H x d → LkV S.K F H y e → p d e = some s → (∀ v F' H', Sub F H F' H' → SlN S.K H F' H' s v → Q v H') → r x y H Q
def b2 (p : PyData → PyData → Option Sl) (f g : En → Option PyData) : En → Option Sl := fun Γ => (f Γ).bind fun x => (g Γ).bind fun y => p x y
theorem op2 {f : Value → Value → Sem Value} {a b : Expr} {p fa fb} (ho : OpS S f p) (ha : SL S a fa) (hb : SL S b fb) : ∃ (r : R2) (ta tb : TE), (∀ X, S.Ok X → OpR X f r) ∧ (∀ X, S.Ok X → PE X a ta) ∧ (∀ X, S.Ok X → PE X b tb) ∧
    ∀ Γ σ H0 F H Q s, EnR S.K H0 F H Γ σ → b2 p fa fb Γ = some s → (∀ v F' H', Sub F H F' H' → SlN S.K H F' H' s v → Q v H') → tOp r ta tb σ H Q := by
  obtain ⟨r, o1, o2⟩ := ho
  obtain ⟨ta, a1, a2⟩ := ha
  obtain ⟨tb, b1, b2⟩ := hb
  refine ⟨r, ta, tb, o1, a1, b1, fun Γ σ H0 F H Q s E hf k => ?_⟩
  unfold Bd.b2 at hf
  cases q : fa Γ with
  | none => rw [q] at hf; cases hf
  | some d =>
    rw [q] at hf
    cases q2 : fb Γ with
    | none => rw [q2] at hf; cases hf
    | some e' =>
      rw [q2] at hf
      refine a2 Γ σ H0 F H _ d E q fun v F1 H1 u1 l1 => ?_
      refine b2 Γ σ H0 F1 H1 _ e' (E.mono u1) q2 fun v2 F2 H2 u2 l2 => ?_
      exact o2 F2 H2 v v2 d e' Q s u2.fh (l1.mono u2) l2 hf fun v3 F3 H3 u3 l3 => k v3 F3 H3 ((u1.trans u2).trans u3) (l3.weak (u1.h.trans u2.h))
theorem se_bin {op : Operator} {a b : Expr} {pos p fa fb} (ho : OpS S (binaryOp op) p) (ha : SL S a fa) (hb : SL S b fb) : SE S (.BinOp a op b pos) (b2 p fa fb) := by
  obtain ⟨r, ta, tb, h1, h2, h3, h4⟩ := op2 ho ha hb
  exact ⟨_, fun X ok => pe_op (h1 X ok) (h2 X ok) (h3 X ok), h4⟩
theorem se_cmp {op : CmpOp} {a b : Expr} {pos p fa fb} (ho : OpS S (compareOp op) p) (ha : SL S a fa) (hb : SL S b fb) (hm : behindInMarks op b = false) : SE S (.Compare a [op] [b] pos) (b2 p fa fb) := by
  obtain ⟨r, ta, tb, h1, h2, h3, h4⟩ := op2 ho ha hb
  exact ⟨_, fun X ok => pe_cmpR (h1 X ok) (h2 X ok) (h3 X ok) hm, h4⟩
def bOf (f : En → Option Sl) : En → Option Bool := fun Γ => match f Γ with
  | some (.fz (.bool b)) => some b
  | _ => none
theorem st_cmp {op : CmpOp} {a b : Expr} {pos p fa fb} (ho : OpS S (compareOp op) p) (ha : SL S a fa) (hb : SL S b fb) (hm : behindInMarks op b = false) : ST S (.Compare a [op] [b] pos) (bOf (b2 p fa fb)) := by
  obtain ⟨r, ta, tb, h1, h2, h3, h4⟩ := op2 ho ha hb
  refine ⟨_, fun X ok => pt_cmpR (h1 X ok) (h2 X ok) (h3 X ok) hm, fun Γ σ H0 F H Q c E hf k => ?_⟩
  unfold bOf at hf
  split at hf
  · next b q =>
    cases hf
    refine h4 Γ σ H0 F H _ _ E q fun v F' H' u l => ?_
    cases l.1
    exact ⟨_, rfl, k F' H' u⟩
  · cases hf
theorem OpS.or {f : Value → Value → Sem Value} {p q : PyData → PyData → Option Sl} (h1 : OpS S f p) (h2 : OpS S f q) : OpS S f (fun x y => (p x y).or (q x y)) := by
  obtain ⟨r1, a1, a2⟩ := h1
  obtain ⟨r2, b1, b2⟩ := h2
  refine ⟨fun x y H Q => r1 x y H Q ∨ r2 x y H Q, fun X ok pins s σ H x y v u Q I rx ry h => h.elim (fun h => a1 X ok pins s σ H x y v u Q I rx ry h) fun h => b1 X ok pins s σ H x y v u Q I rx ry h, fun F H x y d e Q s fh lx ly hp k => ?_⟩
  replace hp : (p d e).or (q d e) = some s := hp
  cases e1 : p d e with
  | some s' => rw [e1] at hp; cases hp; exact .inl (a2 F H x y d e Q s fh lx ly e1 k)
  | none => rw [e1] at hp; exact .inr (b2 F H x y d e Q s fh lx ly hp k)
def pI (g : Int → Int → PyData) (C : Int → Int → Bool) : PyData → PyData → Option Sl
  | .int i, .int j => if C i j = true then some (.fz (g i j)) else none
  | _, _ => none
theorem os_rI {f : Value → Value → Sem Value} {C : Int → Int → Prop} {g : Int → Int → V} {g' : Int → Int → PyData} {B : Int → Int → Bool} (h : ∀ X, S.Ok X → OpR X f (rI C g)) (hB : ∀ i j, B i j = true → C i j) (hg : ∀ F i j, Dp S.K F (g i j) (g' i j)) : OpS S f (pI g' B) := by
  refine ⟨_, h, fun F H x y d e Q s fh lx ly hp k => ?_⟩
  unfold pI at hp
  split at hp
  · rw [lx.int, ly.int]
    split at hp
    · next hc =>
      cases hp
      exact ⟨_, _, rfl, rfl, hB _ _ hc, k _ F H (.refl fh) ⟨hg _ _ _, fun _ _ z => by cases z⟩⟩
    · cases hp
  · cases hp
theorem os_rI0 {f : Value → Value → Sem Value} {g : Int → Int → V} {g' : Int → Int → PyData} (h : ∀ X, S.Ok X → OpR X f (rI0 g)) (hg : ∀ F i j, Dp S.K F (g i j) (g' i j)) : OpS S f (pI g' fun _ _ => true) := by
  refine ⟨_, h, fun F H x y d e Q s fh lx ly hp k => ?_⟩
  unfold pI at hp
  split at hp
  · rw [lx.int, ly.int]
    cases hp
    exact ⟨_, _, rfl, rfl, k _ F H (.refl fh) ⟨hg _ _ _, fun _ _ z => by cases z⟩⟩
  · cases hp
def pCat : PyData → PyData → Option Sl
  | .list xs, .list ys => if xs.length + ys.length ≤ cap then some (.ow (xs ++ ys)) else none
  | _, _ => none
end
end
end Bd
namespace Bd
open PySem L2
noncomputable section
section
variable {S : Sx}
theorem os_add_i : OpS S (binaryOp .Add) (pI (fun i j => .int (i + j)) fun _ _ => true) := os_rI0 (fun X _ => op_add) fun _ _ _ => .int _
theorem os_sub : OpS S (binaryOp .Sub) (pI (fun i j => .int (i - j)) fun _ _ => true) := os_rI0 (fun X _ => op_sub) fun _ _ _ => .int _
def mulB (i j : Int) : Bool := (decide (-(big (2 ^ 64) : Int) < i) && decide (i < (big (2 ^ 64) : Int))) || (decide (-(big (2 ^ 64) : Int) < j) && decide (j < (big (2 ^ 64) : Int)))
theorem os_mul : OpS S (binaryOp .Mult) (pI (fun i j => .int (i * j)) mulB) := os_rI (fun X _ => op_mul) (fun i j h => by
  unfold mulB at h
  rw [big_eq] at h
  simp only [Bool.or_eq_true, Bool.and_eq_true, decide_eq_true_eq] at h
  exact h) fun _ _ _ => .int _
def divB (_ j : Int) : Bool := decide (0 < j) && decide (j < (big 1073741824 : Int))
def modB (_ j : Int) : Bool := decide (0 < j)
theorem os_mod : OpS S (binaryOp .Mod) (pI (fun i j => .int (i % j)) modB) := os_rI (fun X _ => op_mod) (fun i j h => by
  unfold modB at h
  exact of_decide_eq_true h) fun _ _ _ => .int _
def powB (i j : Int) : Bool := decide (0 ≤ j) && decide (j ≤ (big 1000000 : Int)) && decide (i.natAbs < big (2 ^ 64))
theorem os_pow : OpS S (binaryOp .Pow) (pI (fun i j => .int (i ^ j.toNat)) powB) := os_rI (fun X _ => op_pow) (fun i j h => by
  unfold powB at h
  rw [big_eq, big_eq] at h
  simp only [Bool.and_eq_true, decide_eq_true_eq] at h
  exact ⟨h.1.1, h.1.2, h.2⟩) fun _ _ _ => .int _
theorem os_lt : OpS S (compareOp .Lt) (pI (fun i j => .bool (decide (i < j))) fun _ _ => true) := os_rI0 (fun X _ => op_lt) fun _ _ _ => .bl _
theorem os_le : OpS S (compareOp .LtE) (pI (fun i j => .bool (decide (i ≤ j))) fun _ _ => true) := os_rI0 (fun X _ => op_le) fun _ _ _ => .bl _
theorem os_gt : OpS S (compareOp .Gt) (pI (fun i j => .bool (decide (j < i))) fun _ _ => true) := os_rI0 (fun X _ => op_gt) fun _ _ _ => .bl _
theorem os_ge : OpS S (compareOp .GtE) (pI (fun i j => .bool (decide (j ≤ i))) fun _ _ => true) := os_rI0 (fun X _ => op_ge) fun _ _ _ => .bl _
def rCatS (K : PySem.W.Frag) : R2 := fun x y H Q => ∃ l b xs zs, x = .ref l ∧ y = .ref b ∧ SqL K H l xs ∧ SqL K H b zs ∧ xs.length + zs.length ≤ sizeLine ∧ ∀ p, H p = none → Q (.ref p) (upd H p (.lst (xs ++ zs)))
theorem op_catS {X : Cx} : OpR X (binaryOp .Add) (rCatS X.K) := by
  intro pins s σ H x y v u Q I rx ry h
  obtain ⟨l, b, xs, zs, rfl, rfl, hH, hB, hz, q⟩ := h
  cases rx
  cases ry
  obtain ⟨its, r, ⟨⟨cl, dd, data, sl⟩, n, e, c, d, dt⟩, z⟩ := I.list hH
  obtain ⟨its2, r2, ⟨⟨cl2, dd2, data2, sl2⟩, n2, e2, c2, d2, dt2⟩, z2⟩ := I.list hB
  have l1 := r.length
  have l2 := r2.length
  dsimp only at c d dt c2 d2 dt2
  subst c d dt c2 d2 dt2
  have ea : its.toArray ++ its2.toArray = (its ++ its2).toArray := by simp
  refine PySem.concat_meets ⟨_, e, rfl⟩ ⟨_, e2, rfl⟩ PySem.noFill_list_add PySem.seq_list_add PySem.F.slot_list_add PySem.F.entry_list_add (PySem.F.args_list_add_2 _ _) (PyProof.Rows.list_addW l b its.toArray its2.toArray n n2 _ _ sl sl2 (by simp only [List.size_toArray]; omega)) ⟨e, e2, ?_⟩
  rw [ea]
  exact ⟨.ref _, _, I.lnew (t' := s.toks) (r.append r2) (by rw [List.length_append]; omega), rfl, q _ I.fresh⟩
theorem os_cat : OpS S (binaryOp .Add) pCat := by
  refine ⟨rCatS S.K, fun X ok => ok.K ▸ op_catS, fun F H x y d e Q s fh lx ly hp k => ?_⟩
  unfold pCat at hp
  split at hp
  · split at hp
    · next hz =>
      cases hp
      obtain ⟨a, vs, rfl, q1, q2⟩ := lx.list fh
      obtain ⟨b, us, rfl, q3, q4⟩ := ly.list fh
      refine ⟨a, b, vs, us, rfl, rfl, q1, q3, by rw [q2.length, q4.length]; exact cap_le hz, fun p hp => ?_⟩
      exact k _ F _ (.newO fh hp) (SlN.lst fh hp (q2.append q4))
    · cases hp
  · cases hp
def pAdd (x y : PyData) : Option Sl := (pI (fun i j => .int (i + j)) (fun _ _ => true) x y).or (pCat x y)
theorem os_add : OpS S (binaryOp .Add) pAdd := OpS.or os_add_i os_cat
def pEq (d e : PyData) : Option Sl := if (SeqAt.shaped d && SeqAt.shaped e) = true then some (.fz (.bool (PyData.eqv d e))) else none
def pNe (d e : PyData) : Option Sl := if (SeqAt.shaped d && SeqAt.shaped e) = true then some (.fz (.bool (!PyData.eqv d e))) else none
theorem os_eq : OpS S (compareOp .Eq) pEq := by
  refine ⟨rEqD S.K, fun X ok => ok.K ▸ op_eqD ok.room.units, fun F H x y d e Q s fh lx ly hp k => ?_⟩
  unfold pEq at hp
  split at hp
  · next hz =>
    cases hp
    rw [Bool.and_eq_true] at hz
    exact ⟨d, e, lx.dp fh, ly.dp fh, hz.1, hz.2, k _ F H (.refl fh) ⟨.bl _, fun _ _ z => by cases z⟩⟩
  · cases hp
theorem os_ne : OpS S (compareOp .NotEq) pNe := by
  refine ⟨rNeD S.K, fun X ok => ok.K ▸ op_neD ok.room.units, fun F H x y d e Q s fh lx ly hp k => ?_⟩
  unfold pNe at hp
  split at hp
  · next hz =>
    cases hp
    rw [Bool.and_eq_true] at hz
    exact ⟨d, e, lx.dp fh, ly.dp fh, hz.1, hz.2, k _ F H (.refl fh) ⟨.bl _, fun _ _ z => by cases z⟩⟩
  · cases hp
def flatD : PyData → Bool
  | .none => true
  | .bool _ => true
  | .int _ => true
  | .str _ => true
  | _ => false
def pIx (d e : PyData) : Option Sl := match d, e with
  | .list xs, .int i => (atI xs i).map Sl.fz
  | .tuple xs, .int i => (atI xs i).map Sl.fz
  | _, _ => none
theorem atI_dp {K : PySem.W.Frag} {F : Hp} {vs : List V} {xs : List PyData} {i : Int} {d : PyData} (h : DpAll K F vs xs) (e : atI xs i = some d) : ∃ v, atI vs i = some v ∧ Dp K F v d := by
  unfold atI at e ⊢
  rw [h.length]
  cases q : ixN xs.length i with
  | none => rw [q] at e; cases e
  | some j =>
    rw [q] at e
    simp only [Option.bind_some] at e ⊢
    exact h.get' e
theorem se_ix {a b : Expr} {pos fa fb} (ha : SL S a fa) (hb : SL S b fb) (hs : PlainIx b := by intro _ _; rfl) : SE S (.Subscript a b pos) (b2 pIx fa fb) := by
  obtain ⟨ta, a1, a2⟩ := ha
  obtain ⟨tb, b1, b2⟩ := hb
  refine ⟨tOp (fun x y H Q => rIxL S.K x y H Q ∨ rIxT S.K x y H Q) ta tb, fun X ok => pe_ix (IxR.or (ok.K ▸ ix_list) (ok.K ▸ ix_tup)) (a1 X ok) (b1 X ok) hs, fun Γ σ H0 F H Q s E hf k => ?_⟩
  unfold Bd.b2 at hf
  cases q : fa Γ with
  | none => rw [q] at hf; cases hf
  | some d =>
    rw [q] at hf
    cases q2 : fb Γ with
    | none => rw [q2] at hf; cases hf
    | some e' =>
      rw [q2] at hf
      simp only [Option.bind_some] at hf
      refine a2 Γ σ H0 F H _ d E q fun v F1 H1 u1 l1 => ?_
      refine b2 Γ σ H0 F1 H1 _ e' (E.mono u1) q2 fun v2 F2 H2 u2 l2 => ?_
      have l1 := l1.mono u2
      unfold pIx at hf
      split at hf
      · cases e3 : atI ‹List PyData› ‹Int› with
        | none => rw [e3] at hf; cases hf
        | some z =>
          rw [e3] at hf; cases hf
          obtain ⟨a, vs, rfl, q3, q4⟩ := l1.list u2.fh
          obtain ⟨w, q5, q6⟩ := atI_dp q4 e3
          exact .inl ⟨a, vs, _, w, rfl, l2.int, q3, q5, k w F2 H2 (u1.trans u2) ⟨q6, fun _ _ z => by cases z⟩⟩
      · cases e3 : atI ‹List PyData› ‹Int› with
        | none => rw [e3] at hf; cases hf
        | some z =>
          rw [e3] at hf; cases hf
          obtain ⟨a, vs, rfl, q3, q4⟩ := l1.tuple u2.fh
          obtain ⟨w, q5, q6⟩ := atI_dp q4 e3
          exact .inr ⟨a, vs, _, w, rfl, l2.int, q3, q5, k w F2 H2 (u1.trans u2) ⟨q6, fun _ _ z => by cases z⟩⟩
      · cases hf
def SO (S : Sx) (o : Option Expr) (f : En → Option (Option Int)) : Prop :=
  ∃ t : TO, (∀ X, S.Ok X → PO X o t) ∧ ∀ Γ σ H0 F H Q i, EnR S.K H0 F H Γ σ → f Γ = some i → (∀ F' H', Sub F H F' H' → Q i H') → t σ H Q
theorem so_none : SO S none (fun _ => some none) := ⟨tNoPart, fun X _ => po_none, fun Γ σ H0 F H Q i E hf k => by cases hf; exact k F H (.refl E.fh)⟩
def oInt (f : En → Option PyData) : En → Option (Option Int) := fun Γ => match f Γ with
  | some (.int i) => some (some i)
  | _ => none
theorem so_some {e : Expr} {f} (h : SL S e f) : SO S (some e) (oInt f) := by
  obtain ⟨t, a1, a2⟩ := h
  refine ⟨tPart t, fun X ok => po_some (a1 X ok), fun Γ σ H0 F H Q i E hf k => ?_⟩
  unfold oInt at hf
  split at hf
  · next j q =>
    cases hf
    refine a2 Γ σ H0 F H _ _ E q fun v F' H' u l => ?_
    exact ⟨j, l.int, k F' H' u⟩
  · cases hf
def cutD (xs : List PyData) (lo hi : Option Int) : List PyData := (xs.drop (HT.sIx xs.length 0 lo)).take (HT.sIx xs.length xs.length hi - HT.sIx xs.length 0 lo)
def dSl (f : En → Option PyData) (g h : En → Option (Option Int)) : En → Option Sl := fun Γ => match f Γ, g Γ, h Γ with
  | some (.list xs), some lo, some hi => some (.ow (cutD xs lo hi))
  | _, _, _ => none
theorem se_slice {e : Expr} {lo hi : Option Expr} {p2 pos : Pos} {f g h} (he : SL S e f) (hl : SO S lo g) (hh : SO S hi h) : SE S (.Subscript e (.Slice lo hi none p2) pos) (dSl f g h) := by
  obtain ⟨t, a1, a2⟩ := he
  obtain ⟨tl, b1, b2⟩ := hl
  obtain ⟨th, c1, c2⟩ := hh
  refine ⟨tSl (rSlL S.K) t tl th, fun X ok => pe_slice (ok.K ▸ sl_list) (a1 X ok) (b1 X ok) (c1 X ok), fun Γ σ H0 F H Q s E hf k => ?_⟩
  unfold dSl at hf
  split at hf
  · next xs lo' hi' q1 q2 q3 =>
    cases hf
    refine a2 Γ σ H0 F H _ _ E q1 fun v F1 H1 u1 l1 => ?_
    refine b2 Γ σ H0 F1 H1 _ _ (E.mono u1) q2 fun F2 H2 u2 => ?_
    refine c2 Γ σ H0 F2 H2 _ _ (E.mono (u1.trans u2)) q3 fun F3 H3 u3 => ?_
    obtain ⟨a, vs, rfl, q4, q5⟩ := (l1.mono (u2.trans u3)).list u3.fh
    refine ⟨a, vs, rfl, q4, fun p hp => ?_⟩
    refine k _ F3 _ (((u1.trans u2).trans u3).trans (.newO u3.fh hp)) ((SlN.lst u3.fh hp ?_).weak ((u1.trans u2).trans u3).h)
    unfold cutV cutD
    rw [q5.length]
    exact (q5.drop _).take _
  · cases hf
def CallS (S : Sx) (f : Value) (p : List PyData → Option Sl) : Prop :=
  ∃ r : List V → Hp → VK → Prop, (∀ X, S.Ok X → CallR X f r) ∧ ∀ F H vs ds Q s, Same F H → LkA S.K F H vs ds → p ds = some s → (∀ v F' H', Sub F H F' H' → SlN S.K H F' H' s v → Q v H') → r vs H Q
theorem CallS.or {f : Value} {p q : List PyData → Option Sl} (h1 : CallS S f p) (h2 : CallS S f q) : CallS S f (fun x => (p x).or (q x)) := by
  obtain ⟨r1, a1, a2⟩ := h1
  obtain ⟨r2, b1, b2⟩ := h2
  refine ⟨fun vs H Q => r1 vs H Q ∨ r2 vs H Q, fun X ok pins s σ H vs us Q I r h => h.elim (fun h => a1 X ok pins s σ H vs us Q I r h) fun h => b1 X ok pins s σ H vs us Q I r h, fun F H vs ds Q s fh l hp k => ?_⟩
  replace hp : (p ds).or (q ds) = some s := hp
  cases e1 : p ds with
  | some s' => rw [e1] at hp; cases hp; exact .inl (a2 F H vs ds Q s fh l e1 k)
  | none => rw [e1] at hp; exact .inr (b2 F H vs ds Q s fh l hp k)
def callD (p : List PyData → Option Sl) (g : En → Option (List PyData)) : En → Option Sl := fun Γ => (g Γ).bind p
theorem se_callB {x : Str} {id : String} {e : Expr} {es : List Expr} {p pos : Pos} {q g} (hc : CallS S (.builtin id) q) (hm : S.mg x = none) (ha : SAL S (e :: es) g) (hg : glB S.sc x = true := by kernel_rfl) (hv : bootBuiltins x = some (.builtin id) := by decide +kernel)
    (hn : x ≠ "__name__" := by decide) (hdb : (x == ("__debug__" : Str)) = false := by decide) (he : ∀ X : Cx, starEach (e :: es) X.env = (false, eval e X.env) :: starEach es X.env := by intro _; rfl) (hpl : ∀ X : Cx, (backTo pos (starEach es X.env)).any (·.1) = false := by intro _; rfl) :
    SE S (.Call (.Name x p) (e :: es) [] pos) (callD q g) := by
  obtain ⟨r, c1, c2⟩ := hc
  obtain ⟨t, a1, a2⟩ := ha
  refine ⟨tCB r t, fun X ok => pe_callB (c1 X ok) (ok.gl hg) (by rw [ok.mg]; exact hm) hv (a1 X ok) hn hdb (he X) (hpl X), fun Γ σ H0 F H Q s E hf k => ?_⟩
  unfold callD at hf
  cases q1 : g Γ with
  | none => rw [q1] at hf; cases hf
  | some ds =>
    rw [q1] at hf
    refine a2 Γ σ H0 F H _ ds E q1 fun vs F1 H1 u1 l1 => ?_
    exact c2 F1 H1 vs ds Q s u1.fh l1 hf fun v F' H' u l => k v F' H' (u1.trans u) (l.weak u1.h)
theorem se_callTy {x : Str} {id : String} {e : Expr} {es : List Expr} {p pos : Pos} {q g} (hc : CallS S (.type id) q) (hm : S.mg x = none) (ha : SAL S (e :: es) g) (hg : glB S.sc x = true := by kernel_rfl) (hv : bootBuiltins x = some (.type id) := by decide +kernel)
    (hn : x ≠ "__name__" := by decide) (hdb : (x == ("__debug__" : Str)) = false := by decide) (he : ∀ X : Cx, starEach (e :: es) X.env = (false, eval e X.env) :: starEach es X.env := by intro _; rfl) (hpl : ∀ X : Cx, (backTo pos (starEach es X.env)).any (·.1) = false := by intro _; rfl) :
    SE S (.Call (.Name x p) (e :: es) [] pos) (callD q g) := by
  obtain ⟨r, c1, c2⟩ := hc
  obtain ⟨t, a1, a2⟩ := ha
  refine ⟨tCB r t, fun X ok => pe_callTy (c1 X ok) (ok.gl hg) (by rw [ok.mg]; exact hm) hv (a1 X ok) hn hdb (he X) (hpl X), fun Γ σ H0 F H Q s E hf k => ?_⟩
  unfold callD at hf
  cases q1 : g Γ with
  | none => rw [q1] at hf; cases hf
  | some ds =>
    rw [q1] at hf
    refine a2 Γ σ H0 F H _ ds E q1 fun vs F1 H1 u1 l1 => ?_
    exact c2 F1 H1 vs ds Q s u1.fh l1 hf fun v F' H' u l => k v F' H' (u1.trans u) (l.weak u1.h)
theorem LkA.one {K : PySem.W.Frag} {F H : Hp} {vs : List V} {d : PyData} (h : LkA K F H vs [d]) : ∃ v, vs = [v] ∧ LkV K F H v d := by
  cases h with
  | cons h t => cases t; exact ⟨_, rfl, h⟩
theorem LkA.two {K : PySem.W.Frag} {F H : Hp} {vs : List V} {d e : PyData} (h : LkA K F H vs [d, e]) : ∃ v u, vs = [v, u] ∧ LkV K F H v d ∧ LkV K F H u e := by
  cases h with
  | cons h t =>
    obtain ⟨u, rfl, q⟩ := t.one
    exact ⟨_, u, rfl, h, q⟩
def pLen : List PyData → Option Sl
  | [.list xs] => some (.fz (.int xs.length))
  | [.tuple xs] => some (.fz (.int xs.length))
  | _ => none
theorem cs_len : CallS S (.builtin "len") pLen := by
  refine ⟨fun xs H Q => ∃ p ys, xs = [.ref p] ∧ (SqL S.K H p ys ∨ SqT S.K H p ys) ∧ Q (.int ys.length) H, fun X ok => ok.K ▸ call_len_seq, fun F H vs ds Q s fh l hp k => ?_⟩
  unfold pLen at hp
  split at hp
  · cases hp
    obtain ⟨v, rfl, m⟩ := l.one
    obtain ⟨a, us, rfl, q1, q2⟩ := m.list fh
    refine ⟨a, us, rfl, .inl q1, ?_⟩
    rw [q2.length]
    exact k _ F H (.refl fh) ⟨.int _, fun _ _ z => by cases z⟩
  · cases hp
    obtain ⟨v, rfl, m⟩ := l.one
    obtain ⟨a, us, rfl, q1, q2⟩ := m.tuple fh
    refine ⟨a, us, rfl, .inr q1, ?_⟩
    rw [q2.length]
    exact k _ F H (.refl fh) ⟨.int _, fun _ _ z => by cases z⟩
  · cases hp
def pAbs : List PyData → Option Sl
  | [.int i] => some (.fz (.int (if i < 0 then -i else i)))
  | _ => none
theorem cs_abs : CallS S (.builtin "abs") pAbs := by
  refine ⟨_, fun X ok => call_abs, fun F H vs ds Q s fh l hp k => ?_⟩
  unfold pAbs at hp
  split at hp
  · cases hp
    obtain ⟨v, rfl, m⟩ := l.one
    exact ⟨_, by rw [m.int], k _ F H (.refl fh) ⟨.int _, fun _ _ z => by cases z⟩⟩
  · cases hp
def pListOf : List PyData → Option Sl
  | [.list xs] => some (.ow xs)
  | [.tuple xs] => some (.ow xs)
  | _ => none
theorem cs_list : CallS S (.type "list") pListOf := by
  refine ⟨fun xs H Q => ∃ p ys, xs = [.ref p] ∧ (SqL S.K H p ys ∨ SqT S.K H p ys) ∧ ∀ l, H l = none → Q (.ref l) (upd H l (.lst ys)), fun X ok => ok.K ▸ call_list_of, fun F H vs ds Q s fh l hp k => ?_⟩
  unfold pListOf at hp
  split at hp
  · cases hp
    obtain ⟨v, rfl, m⟩ := l.one
    obtain ⟨a, us, rfl, q1, q2⟩ := m.list fh
    exact ⟨a, us, rfl, .inl q1, fun p hp => k _ F _ (.newO fh hp) (SlN.lst fh hp q2)⟩
  · cases hp
    obtain ⟨v, rfl, m⟩ := l.one
    obtain ⟨a, us, rfl, q1, q2⟩ := m.tuple fh
    exact ⟨a, us, rfl, .inr q1, fun p hp => k _ F _ (.newO fh hp) (SlN.lst fh hp q2)⟩
  · cases hp
def toInts : List PyData → Option (List Int)
  | [] => some []
  | .int i :: ds => (toInts ds).map (i :: ·)
  | _ :: _ => none
theorem toInts_eq : ∀ {ds : List PyData} {ns : List Int}, toInts ds = some ns → ds = ns.map PyData.int
  | [], ns, h => by cases h; rfl
  | d :: ds, ns, h => by
    unfold toInts at h
    split at h
    · next e => cases e
    · next i ds' e =>
      cases e
      cases q : toInts ds with
      | none => rw [q] at h; cases h
      | some ms => rw [q] at h; cases h; rw [toInts_eq q]; rfl
    · cases h
theorem toInts_map : ∀ (ns : List Int), toInts (ns.map PyData.int) = some ns
  | [] => rfl
  | n :: ns => by show (toInts (ns.map PyData.int)).map (n :: ·) = _; rw [toInts_map ns]; rfl
def sortI (ns : List Int) : List Int := ns.mergeSort (fun a b => decide (a ≤ b))
theorem sorted_eq : ∀ {l m : List Int}, l.Perm m → l.Pairwise (· ≤ ·) → m.Pairwise (· ≤ ·) → l = m
  | [], m, p, _, _ => by rw [List.nil_perm.mp p]
  | a :: l, [], p, _, _ => by cases List.perm_nil.mp p
  | a :: l, b :: m, p, h1, h2 => by
    rw [List.pairwise_cons] at h1 h2
    have e : a = b := by
      have ha : a ∈ b :: m := p.mem_iff.mp List.mem_cons_self
      have hb : b ∈ a :: l := p.mem_iff.mpr List.mem_cons_self
      rcases List.mem_cons.mp ha with q | q
      · exact q
      · rcases List.mem_cons.mp hb with r | r
        · exact r.symm
        · exact Int.le_antisymm (h1.1 b r) (h2.1 a q)
    subst e
    rw [sorted_eq (List.Perm.cons_inv p) h1.2 h2.2]
theorem sortI_perm (ns : List Int) : (sortI ns).Perm ns := List.mergeSort_perm ns _
theorem sortI_sorted (ns : List Int) : (sortI ns).Pairwise (· ≤ ·) := by
  have h := List.pairwise_mergeSort (le := fun a b : Int => decide (a ≤ b)) (fun a b c h1 h2 => by simp at *; omega) (fun a b => by simp; omega) ns
  exact h.imp fun h => by simpa using h
theorem sortI_eq {l ns : List Int} (p : l.Perm ns) (h : l.Pairwise (· ≤ ·)) : l = sortI ns := sorted_eq (p.trans (sortI_perm ns).symm) h (sortI_sorted ns)
end
end
end Bd
namespace Bd
open PySem L2
noncomputable section
section
variable {S : Sx}
def truD : PyData → Option Bool
  | .none => some false
  | .bool b => some b
  | .int i => some (i != 0)
  | .list xs => some (!xs.isEmpty)
  | .tuple xs => some (!xs.isEmpty)
  | _ => none
def bTru (f : En → Option PyData) : En → Option Bool := fun Γ => (f Γ).bind truD
theorem emp_eq {K : PySem.W.Frag} {F : Hp} {vs : List V} {xs : List PyData} (h : DpAll K F vs xs) : (!xs.isEmpty) = !vs.isEmpty := by cases h <;> rfl
theorem st_truth {e : Expr} {f} (h : SL S e f) (he : ∀ (X : Cx) whole, isTrue e X.env whole = (do let v ← whole; standAt e.pos; holding [v] (truthy v)) := by intro _ _; rfl) : ST S e (bTru f) := by
  obtain ⟨t, a1, a2⟩ := h
  refine ⟨fun σ H Q => t σ H fun x H' => ∃ k, TruV S.K x H' k ∧ Q k H', fun X ok => ok.K ▸ pt_truth (a1 X ok) (he X), fun Γ σ H0 F H Q b E hf k => ?_⟩
  unfold bTru at hf
  cases q : f Γ with
  | none => rw [q] at hf; cases hf
  | some d =>
    rw [q] at hf
    simp only [Option.bind_some] at hf
    refine a2 Γ σ H0 F H _ d E q fun v F' H' u l => ⟨b, ?_, k F' H' u⟩
    unfold truD at hf
    split at hf
    · cases hf; rw [l.non]; exact rfl
    · cases hf; rw [l.bl]; exact rfl
    · cases hf; rw [l.int]; exact rfl
    · cases hf
      obtain ⟨a, vs, rfl, q1, q2⟩ := l.list u.fh
      exact .inl ⟨vs, q1, emp_eq q2⟩
    · cases hf
      obtain ⟨a, vs, rfl, q1, q2⟩ := l.tuple u.fh
      exact .inr (.inl ⟨vs, q1, emp_eq q2⟩)
    · cases hf
def bNot (f : En → Option Bool) : En → Option Bool := fun Γ => (f Γ).map (!·)
theorem st_not {e : Expr} {pos f} (h : ST S e f) : ST S (.UnaryOp .Not e pos) (bNot f) := by
  obtain ⟨t, a1, a2⟩ := h
  refine ⟨tNot t, fun X ok => pt_not (a1 X ok), fun Γ σ H0 F H Q b E hf k => ?_⟩
  unfold bNot at hf
  cases q : f Γ with
  | none => rw [q] at hf; cases hf
  | some c => rw [q] at hf; cases hf; exact a2 Γ σ H0 F H _ c E q k
def bAnd (f g : En → Option Bool) : En → Option Bool := fun Γ => match f Γ with
  | some true => g Γ
  | some false => some false
  | none => none
def bOr (f g : En → Option Bool) : En → Option Bool := fun Γ => match f Γ with
  | some true => some true
  | some false => g Γ
  | none => none
theorem SW.t {e : Expr} {f} (h : SW S e f) : ST S e f := by
  obtain ⟨t, a1, a2⟩ := h
  exact ⟨t, fun X ok => (a1 X ok).pt, a2⟩
theorem sw_and1 {e : Expr} {pos f} (h : ST S e f) : SW S (.BoolOp .And [e] pos) f := by
  obtain ⟨t, a1, a2⟩ := h
  exact ⟨t, fun X ok => pw_and1 (a1 X ok), a2⟩
theorem sw_or1 {e : Expr} {pos f} (h : ST S e f) : SW S (.BoolOp .Or [e] pos) f := by
  obtain ⟨t, a1, a2⟩ := h
  exact ⟨t, fun X ok => pw_or1 (a1 X ok), a2⟩
theorem sw_and {a b : Expr} {rest : List Expr} {pos f g} (h : ST S a f) (h2 : SW S (.BoolOp .And (b :: rest) pos) g) : SW S (.BoolOp .And (a :: b :: rest) pos) (bAnd f g) := by
  obtain ⟨t, a1, a2⟩ := h
  obtain ⟨u, b1, b2⟩ := h2
  refine ⟨tAnd t u, fun X ok => pw_and (a1 X ok) (b1 X ok), fun Γ σ H0 F H Q c E hf k => ?_⟩
  unfold bAnd at hf
  split at hf
  · next q => exact a2 Γ σ H0 F H _ true E q fun F1 H1 u1 => iteT (b2 Γ σ H0 F1 H1 Q c (E.mono u1) hf fun F2 H2 u2 => k F2 H2 (u1.trans u2))
  · next q => cases hf; exact a2 Γ σ H0 F H _ false E q fun F1 H1 u1 => iteF (k F1 H1 u1)
  · cases hf
theorem sw_or {a b : Expr} {rest : List Expr} {pos f g} (h : ST S a f) (h2 : SW S (.BoolOp .Or (b :: rest) pos) g) : SW S (.BoolOp .Or (a :: b :: rest) pos) (bOr f g) := by
  obtain ⟨t, a1, a2⟩ := h
  obtain ⟨u, b1, b2⟩ := h2
  refine ⟨tOr t u, fun X ok => pw_or (a1 X ok) (b1 X ok), fun Γ σ H0 F H Q c E hf k => ?_⟩
  unfold bOr at hf
  split at hf
  · next q => cases hf; exact a2 Γ σ H0 F H _ true E q fun F1 H1 u1 => iteT (k F1 H1 u1)
  · next q => exact a2 Γ σ H0 F H _ false E q fun F1 H1 u1 => iteF (b2 Γ σ H0 F1 H1 Q c (E.mono u1) hf fun F2 H2 u2 => k F2 H2 (u1.trans u2))
  · cases hf
theorem se_one {op} {e : Expr} {pos f} (h : SE S e f) : SE S (.BoolOp op [e] pos) f := by
  obtain ⟨t, a1, a2⟩ := h
  exact ⟨t, fun X ok => pe_one (a1 X ok), a2⟩
def vAnd (f g : En → Option Sl) : En → Option Sl := fun Γ => match f Γ with
  | some (.fz (.bool true)) => g Γ
  | some (.fz (.bool false)) => some (.fz (.bool false))
  | _ => none
def vOr (f g : En → Option Sl) : En → Option Sl := fun Γ => match f Γ with
  | some (.fz (.bool true)) => some (.fz (.bool true))
  | some (.fz (.bool false)) => g Γ
  | _ => none
def vNot (f : En → Option Sl) : En → Option Sl := fun Γ => match f Γ with
  | some (.fz (.bool b)) => some (.fz (.bool (!b)))
  | _ => none
theorem SlN.bl {K : PySem.W.Frag} {H F' H' : Hp} {b : Bool} {v : V} (h : SlN K H F' H' (.fz (.bool b)) v) : v = .bl b := by cases h.1; rfl
theorem slN_bl {K : PySem.W.Frag} {H F' H' : Hp} (b : Bool) : SlN K H F' H' (.fz (.bool b)) (.bl b) := ⟨.bl b, fun _ _ z => by cases z⟩
theorem se_and {a b : Expr} {rest : List Expr} {pos f g} (h : SE S a f) (h2 : SE S (.BoolOp .And (b :: rest) pos) g) : SE S (.BoolOp .And (a :: b :: rest) pos) (vAnd f g) := by
  obtain ⟨t, a1, a2⟩ := h
  obtain ⟨u, b1, b2⟩ := h2
  refine ⟨tAndV t u, fun X ok => pe_and (a1 X ok) (b1 X ok), fun Γ σ H0 F H Q s E hf k => ?_⟩
  unfold vAnd at hf
  split at hf
  · next q => exact a2 Γ σ H0 F H _ _ E q fun v F1 H1 u1 l1 => ⟨true, l1.bl, iteT (b2 Γ σ H0 F1 H1 Q s (E.mono u1) hf fun v2 F2 H2 u2 l2 => k v2 F2 H2 (u1.trans u2) (l2.weak u1.h))⟩
  · next q => cases hf; exact a2 Γ σ H0 F H _ _ E q fun v F1 H1 u1 l1 => ⟨false, l1.bl, iteF (k _ F1 H1 u1 (slN_bl _))⟩
  · cases hf
def tyName : PyData → String
  | .none => "NoneType"
  | .bool _ => "bool"
  | .int _ => "int"
  | .str _ => "str"
  | .list _ => "list"
  | .tuple _ => "tuple"
  | .dict _ => "dict"
def isTy (T : String) (d : PyData) : Bool := tyName d == T || (T == "int" && tyName d == "bool")
theorem kit_ok (K : PySem.W.Frag) (T : String) (hT : T ∈ ["list", "int", "bool", "tuple", "str"]) (d : PyData) (_ : True) : PySem.W.kitOne K (.type (tyName d)) (.type T) = some (isTy T d) := by
  simp only [List.mem_cons, List.not_mem_nil, or_false] at hT
  cases d with
  | _ => rcases hT with rfl | rfl | rfl | rfl | rfl <;> kernel_rfl
def rIsi (K : PySem.W.Frag) : List V → Hp → VK → Prop := fun vs H Q => ∃ v d T, vs = [v, .ty T] ∧ Dp K H v d ∧ T ∈ ["list", "int", "bool", "tuple", "str"] ∧ Q (.bl (isTy T d)) H
theorem cr_isi {X : Cx} : CallR X (.builtin "isinstance") (rIsi X.K) := by
  intro pins s σ H vs us Q I r h
  obtain ⟨v, d, T, rfl, hd, hT, q⟩ := h
  cases r with
  | cons rv t =>
    cases t with
    | cons rt t =>
      cases t
      cases rt
      have fin : ∀ tk, EP X pins σ Q (.bool (isTy T d)) { s with toks := tk } := fun tk => ⟨.bl _, H, I.tok tk, rfl, q⟩
      have kk := kit_ok X.K T hT d
      cases hd with
      | non => cases rv; exact PySem.W.kia_one PySem.W.kitx_none I.kIn True.intro (kk trivial) (fun z => nomatch z) fin
      | bl b => cases rv; exact PySem.W.kia_one PySem.W.kitx_bool I.kIn True.intro (kk trivial) (fun z => nomatch z) fin
      | int i => obtain ⟨t, rfl⟩ := rv; exact PySem.W.kia_one PySem.W.kitx_int I.kIn True.intro (kk trivial) (fun z => nomatch z) fin
      | str i => obtain ⟨t, rfl⟩ := rv; exact PySem.W.kia_one PySem.W.kitx_str I.kIn True.intro (kk trivial) (fun z => nomatch z) fin
      | lst hs ha =>
        cases rv
        obtain ⟨its, _, ⟨o, n, e, c, _, _⟩, _⟩ := I.list hs
        exact PySem.W.kia_one PySem.W.kitx_list I.kIn ⟨o, e, c⟩ (kk trivial) (fun z => nomatch z) fin
      | tup hs ha =>
        cases rv
        obtain ⟨its, _, ⟨o, e, c, _⟩, _⟩ := I.tuple hs
        exact PySem.W.kia_one PySem.W.kitx_tuple I.kIn ⟨o, e, c⟩ (kk trivial) (fun z => nomatch z) fin
      | dic hs =>
        cases rv
        obtain ⟨_, _, _, _, o, _, _, e, c, _⟩ := I.hok _ _ hs
        exact PySem.W.kia_one PySem.W.kitx_dict I.kIn ⟨o, e, c.1⟩ (kk trivial) (fun z => nomatch z) fin
      | dis hs _ _ =>
        cases rv
        obtain ⟨_, _, _, _, o, _, _, e, c, _⟩ := dk_rd I.hok hs
        exact PySem.W.kia_one PySem.W.kitx_dict I.kIn ⟨o, e, c.1⟩ (kk trivial) (fun z => nomatch z) fin
def vIsi (T : String) (f : En → Option PyData) : En → Option Sl := fun Γ => (f Γ).map fun d => .fz (.bool (isTy T d))
theorem se_isi {e : Expr} {p p2 pos : Pos} {x : Str} {T : String} {f} (ha : SL S e f) (hm : S.mg "isinstance" = none) (hm2 : S.mg x = none) (hT : T ∈ ["list", "int", "bool", "tuple", "str"] := by decide +kernel) (hv : bootBuiltins x = some (.type T) := by decide +kernel) (hg : glB S.sc "isinstance" = true := by kernel_rfl) (hg2 : glB S.sc x = true := by kernel_rfl)
    (hn : x ≠ "__name__" := by decide) (hdb : (x == ("__debug__" : Str)) = false := by decide) (he : ∀ X : Cx, starEach [e, .Name x p2] X.env = (false, eval e X.env) :: starEach [.Name x p2] X.env := by intro _; rfl) (hpl : ∀ X : Cx, (backTo pos (starEach [.Name x p2] X.env)).any (·.1) = false := by intro _; rfl) :
    SE S (.Call (.Name "isinstance" p) [e, .Name x p2] [] pos) (vIsi T f) := by
  obtain ⟨t, a1, a2⟩ := ha
  refine ⟨tCB (rIsi S.K) (tCons t (tCons (tC (.ty T)) tNil)), fun X ok => pe_callB (ok.K ▸ cr_isi) (ok.gl hg) (by rw [ok.mg]; exact hm) (by decide +kernel) (pa_cons (a1 X ok) (pa_cons (pe_bltn (ok.gl hg2) (by rw [ok.mg]; exact hm2) hv rfl hn hdb) pa_nil) (he X)) (he := he X) (hpl := hpl X), fun Γ σ H0 F H Q s E hf k => ?_⟩
  unfold vIsi at hf
  cases q : f Γ with
  | none => rw [q] at hf; cases hf
  | some d =>
    rw [q] at hf; cases hf
    refine a2 Γ σ H0 F H _ d E q fun v F1 H1 u1 l1 => ?_
    exact ⟨v, d, T, rfl, l1.dp u1.fh, hT, k _ F1 H1 u1 (slN_bl _)⟩
def vMaxD (f g : En → Option PyData) : En → Option Sl := fun Γ => match f Γ, g Γ with
  | some (.list xs), some d => (toInts xs).map fun ns => .fz (match maxOpt ns with | none => d | some m => .int m)
  | _, _ => none
theorem se_maxd {e ed : Expr} {p pos kp : Pos} {f g} (ha : SL S e f) (hd : SV S ed g) (hm : S.mg "max" = none) (hg : glB S.sc "max" = true := by kernel_rfl) (he : ∀ X : Cx, starEach [e] X.env = (false, eval e X.env) :: starEach [] X.env := by intro _; rfl) :
    SE S (.Call (.Name "max" p) [e] [⟨some "default", ed, kp⟩] pos) (vMaxD f g) := by
  obtain ⟨t, a1, a2⟩ := ha
  obtain ⟨u, b1, b2⟩ := hd
  refine ⟨tMaxD S.K t u, fun X ok => ok.K ▸ pe_maxd (by rw [ok.mg]; exact hm) (ok.gl hg) ok.calm (a1 X ok) (b1 X ok) (he X), fun Γ σ H0 F H Q s E hf k => ?_⟩
  unfold vMaxD at hf
  split at hf
  · next xs d q1 q2 =>
    cases q3 : toInts xs with
    | none => rw [q3] at hf; cases hf
    | some ns =>
      rw [q3] at hf; cases hf
      refine a2 Γ σ H0 F H _ _ E q1 fun v F1 H1 u1 l1 => ?_
      refine b2 Γ σ H0 F1 H1 _ _ (E.mono u1) q2 fun w F2 H2 u2 l2 => ?_
      obtain ⟨a, vs, rfl, q4, q5⟩ := (l1.mono u2).list u2.fh
      rw [toInts_eq q3] at q5
      rw [q5.ints] at q4
      refine ⟨a, ns, rfl, q4, k _ F2 H2 (u1.trans u2) ?_⟩
      dsimp only
      cases maxOpt ns with
      | none => exact ⟨l2, fun _ _ z => by cases z⟩
      | some m => exact ⟨.int m, fun _ _ z => by cases z⟩
  · cases hf
theorem foldl_bst : ∀ (ns : List Int) (b : Int), ∃ m, ns.foldl bst (some b) = some m ∧ (m = b ∨ m ∈ ns) ∧ b ≤ m ∧ ∀ y ∈ ns, y ≤ m
  | [], b => ⟨b, rfl, .inl rfl, Int.le_refl _, fun y h => by cases h⟩
  | n :: ns, b => by
    rw [List.foldl_cons]
    by_cases h : b < n
    · rw [show bst (some b) n = some n from if_pos h]
      obtain ⟨m, e, h1, h2, h3⟩ := foldl_bst ns n
      refine ⟨m, e, .inr ?_, by omega, fun y hy => ?_⟩
      · rcases h1 with rfl | h1
        · exact List.mem_cons_self
        · exact List.mem_cons_of_mem _ h1
      · rcases List.mem_cons.mp hy with rfl | hy
        · exact h2
        · exact h3 y hy
    · rw [show bst (some b) n = some b from if_neg h]
      obtain ⟨m, e, h1, h2, h3⟩ := foldl_bst ns b
      refine ⟨m, e, ?_, h2, fun y hy => ?_⟩
      · rcases h1 with rfl | h1
        · exact .inl rfl
        · exact .inr (List.mem_cons_of_mem _ h1)
      · rcases List.mem_cons.mp hy with rfl | hy
        · omega
        · exact h3 y hy
def pMax : List PyData → Option Sl
  | [.list xs] => (toInts xs).bind fun ns => (maxOpt ns).map fun m => .fz (.int m)
  | _ => none
def pMax2 : List PyData → Option Sl
  | [.int i, .int j] => some (.fz (.int (if j > i then j else i)))
  | _ => none
theorem cs_max2 : CallS S (.builtin "max") pMax2 := by
  refine ⟨_, fun X ok => call_max2 ok.calm, fun F H vs ds Q s fh l hp k => ?_⟩
  unfold pMax2 at hp
  split at hp
  · cases hp
    obtain ⟨v, u, rfl, l1, l2⟩ := l.two
    exact ⟨_, _, by rw [l1.int, l2.int], k _ F H (.refl fh) ⟨.int _, fun _ _ z => by cases z⟩⟩
  · cases hp
def pSum : List PyData → Option Sl
  | [.list xs] => (toInts xs).map fun ns => .fz (.int ns.sum)
  | _ => none
theorem cs_sum : CallS S (.builtin "sum") pSum := by
  refine ⟨rSum S.K, fun X ok => ok.K ▸ cr_sum ok.calm, fun F H vs ds Q s fh l hp k => ?_⟩
  unfold pSum at hp
  split at hp
  · cases q : toInts ‹List PyData› with
    | none => rw [q] at hp; cases hp
    | some ns =>
      rw [q] at hp; cases hp
      obtain ⟨v, rfl, lv⟩ := l.one
      obtain ⟨a, us, rfl, q1, q2⟩ := LkV.list fh lv
      rw [toInts_eq q] at q2
      rw [q2.ints] at q1
      exact ⟨a, ns, rfl, q1, k _ F H (.refl fh) ⟨.int _, fun _ _ z => by cases z⟩⟩
  · cases hp
def toBls : List PyData → Option (List Bool)
  | [] => some []
  | .bool i :: ds => (toBls ds).map (i :: ·)
  | _ :: _ => none
theorem toBls_eq : ∀ {ds : List PyData} {ns : List Bool}, toBls ds = some ns → ds = ns.map PyData.bool
  | [], ns, h => by cases h; rfl
  | d :: ds, ns, h => by
    unfold toBls at h
    split at h
    · next e => cases e
    · next i ds' e =>
      cases e
      cases q : toBls ds with
      | none => rw [q] at h; cases h
      | some ms => rw [q] at h; cases h; rw [toBls_eq q]; rfl
    · cases h
theorem toBls_map : ∀ (ns : List Bool), toBls (ns.map PyData.bool) = some ns
  | [] => rfl
  | n :: ns => by show (toBls (ns.map PyData.bool)).map (n :: ·) = _; rw [toBls_map ns]; rfl
def pAll : List PyData → Option Sl
  | [.list xs] => (toBls xs).map fun ns => .fz (.bool (ns.all id))
  | _ => none
theorem cs_all : CallS S (.builtin "all") pAll := by
  refine ⟨rAll S.K, fun X ok => ok.K ▸ cr_all ok.calm, fun F H vs ds Q s fh l hp k => ?_⟩
  unfold pAll at hp
  split at hp
  · cases q : toBls ‹List PyData› with
    | none => rw [q] at hp; cases hp
    | some ns =>
      rw [q] at hp; cases hp
      obtain ⟨v, rfl, lv⟩ := l.one
      obtain ⟨a, us, rfl, q1, q2⟩ := LkV.list fh lv
      rw [toBls_eq q] at q2
      rw [q2.bls] at q1
      exact ⟨a, ns, rfl, q1, k _ F H (.refl fh) (slN_bl _)⟩
  · cases hp
def spD (K : PySem.W.Frag) (n : Nat) (m : List PyData → Option Sl) : Sp := fun vs H Q _ =>
  ∃ F ds s, Same F H ∧ ds.length = n ∧ DpAll K F vs ds ∧ m ds = some s ∧ ∀ v F' H', Sub F H F' H' → SlN K H F' H' s v → Q v H'
structure FnD (S : Sx) (x : Str) (ps : List Str) (m : List PyData → Option Sl) : Prop where
  ex : ∃ (f : Addr) (fd : FuncData) (j : Nat), FnOk S.P S.w S.K S.mg S.base CX0 j f fd ps (spD S.K ps.length m) ∧ j ≤ S.k ∧ S.mg x = some (.ref f) ∧ PySem.W.keepIn S.K (.ref f) = true ∧ Binds S.K fd ps []
theorem se_call {x : Str} {ps : List Str} {m} {e : Expr} {es : List Expr} {p pos : Pos} {g} (G : FnD S x ps m) (ha : SAV S (e :: es) g) (hl : es.length + 1 = ps.length := by rfl) (hg : glB S.sc x = true := by kernel_rfl) (hdb : (x == ("__debug__" : Str)) = false := by decide)
    (he : ∀ X : Cx, starEach (e :: es) X.env = (false, eval e X.env) :: starEach es X.env := by intro _; rfl) (hpl : ∀ X : Cx, (backTo pos (starEach es X.env)).any (·.1) = false := by intro _; rfl) (hz : ∀ Γ ds, g Γ = some ds → ds.length = ps.length) :
    SE S (.Call (.Name x p) (e :: es) [] pos) (callD m g) := by
  obtain ⟨f, fd, j, F0, hj, hm, hk, hb⟩ := G.ex
  obtain ⟨t, a1, a2⟩ := ha
  refine ⟨tCall (spD S.K ps.length m) [] E0 t, fun X ok => ?_, fun Γ σ H0 F H Q s E hf k => ?_⟩
  · have F1 : FnOk X.prog X.w X.K X.mg X.base CX0 j f fd ps (spD S.K ps.length m) := by rw [ok.P, ok.w, ok.K, ok.mg, ok.base]; exact F0
    exact pe_call F1 (ok.room.mono hj) (ok.gl hg) (by rw [ok.mg]; exact hm) (by rw [ok.K]; exact hk) (by rw [ok.K]; exact hb) .nil pass0 (a1 X ok) hdb (he X) (hpl X)
  · unfold callD at hf
    cases q1 : g Γ with
    | none => rw [q1] at hf; cases hf
    | some ds =>
      rw [q1] at hf
      refine a2 Γ σ H0 F H _ ds E q1 fun vs F1 H1 u1 l1 => ?_
      rw [List.append_nil]
      exact ⟨F1, ds, s, u1.fh, hz Γ ds q1, l1, hf, fun v F' H' u l => k v F' H' (u1.trans u) (l.weak u1.h)⟩
end
end
end Bd
namespace Bd
open PySem L2
noncomputable section
section
variable {S : Sx}
def ItR (K : PySem.W.Frag) (F B : Hp) (J : It) (ds : List PyData) : Prop := ∀ (i : Nat) (F1 H1 : Hp), Same F F1 → Same F1 H1 → Same B H1 →
  (i < ds.length → J.go i H1 ∧ ∀ x H2, J.yld i H1 x H2 → ∃ F2 d, ds[i]? = some d ∧ Sub F1 H1 F2 H2 ∧ Dp K F2 x d) ∧ (ds.length ≤ i → J.stop i H1)
def SI (S : Sx) (tg iter : Expr) (f : En → Option (List PyData)) : Prop :=
  ∃ wi : TI, (∀ X, S.Ok X → PI X tg iter wi) ∧ ∀ Γ σ H0 F H R ds, EnR S.K H0 F H Γ σ → f Γ = some ds → (∀ J F' H', Sub F H F' H' → ItR S.K F' H' J ds → R J H') → wi σ H R
def SIV (S : Sx) (tg iter : Expr) (f : En → Option (List PyData)) : Prop :=
  ∃ wi : TI, (∀ X, S.Ok X → PI X tg iter wi) ∧ ∀ Γ σ H0 F H R ds, EnR S.K H0 F H Γ σ → f Γ = some ds → (∀ J F' H', Sub F H F' H' → ItR S.K F' F' J ds → R J H') → wi σ H R
theorem SIV.l {tg iter : Expr} {f} (h : SIV S tg iter f) : SI S tg iter f := by
  obtain ⟨wi, a1, a2⟩ := h
  exact ⟨wi, a1, fun Γ σ H0 F H R ds E hf k => a2 Γ σ H0 F H R ds E hf fun J F' H' u it => k J F' H' u fun i F1 H1 h1 h2 h3 => it i F1 H1 h1 h2 (h1.trans h2)⟩
theorem itR_list {K : PySem.W.Frag} {F B : Hp} {a : Addr} {vs : List V} {ds : List PyData} (h : SqL K B a vs) (hd : DpAll K F vs ds) : ItR K F B (Itl K a) ds := by
  intro i F1 H1 h1 h2 h3
  have q := h3.seq h
  refine ⟨fun hi => ?_, fun hi => ⟨vs, q, by rw [hd.length]; exact hi⟩⟩
  have lt : i < vs.length := by rw [hd.length]; exact hi
  refine ⟨⟨vs, vs[i], q, by simp [lt]⟩, fun x H2 y => ?_⟩
  obtain ⟨rfl, y⟩ := y
  obtain ⟨d, e1, e2⟩ := hd.get (y vs q)
  exact ⟨F1, d, e1, .refl h2, dp_mono h1 e2⟩
def enumD (ds : List PyData) : List PyData := (List.range ds.length).zipWith (fun (i : Nat) d => PyData.tuple [.int (i : Int), d]) ds
def rngD (lo : Int) (n : Nat) : List PyData := (List.range n).map fun (i : Nat) => PyData.int (lo + (i : Int))
theorem itR_rng {K : PySem.W.Frag} {F B : Hp} {lo : Int} {n : Nat} : ItR K F B (Itr lo n) (rngD lo n) := by
  intro i F1 H1 h1 h2 h3
  have hl : (rngD lo n).length = n := by unfold rngD; simp
  rw [hl]
  refine ⟨fun hi => ⟨hi, fun x H2 y => ?_⟩, fun hi => hi⟩
  obtain ⟨rfl, rfl⟩ := y
  refine ⟨F1, .int (lo + (i : Int)), ?_, .refl h2, .int _⟩
  unfold rngD
  rw [List.getElem?_map, List.getElem?_range hi]; rfl
def iLst (f : En → Option PyData) : En → Option (List PyData) := fun Γ => match f Γ with
  | some (.list xs) => some xs
  | _ => none
theorem si_list {tg e : Expr} {f} (h : SL S e f) : SI S tg e (iLst f) := by
  obtain ⟨t, a1, a2⟩ := h
  refine ⟨iList S.K t, fun X ok => ok.K ▸ pi_list (a1 X ok), fun Γ σ H0 F H R ds E hf k => ?_⟩
  unfold iLst at hf
  split at hf
  · next xs q =>
    cases hf
    refine a2 Γ σ H0 F H _ _ E q fun v F1 H1 u1 l1 => ?_
    obtain ⟨a, vs, rfl, q1, q2⟩ := l1.list u1.fh
    exact ⟨a, rfl, ⟨vs, q1⟩, k _ F1 H1 u1 (itR_list q1 q2)⟩
  · cases hf
def iEnm (f : En → Option PyData) : En → Option (List PyData) := fun Γ => match f Γ with
  | some (.list xs) => some (enumD xs)
  | _ => none
def iR1 (f : En → Option PyData) : En → Option (List PyData) := fun Γ => match f Γ with
  | some (.int j) => if -(big (2 ^ 62) : Int) ≤ j ∧ j < (big (2 ^ 62) : Int) then some (rngD 0 j.toNat) else none
  | _ => none
theorem siv_range1 {tg : Expr} {p pos : Pos} {e : Expr} {f} (h : SL S e f) (hm : S.mg "range" = none) (hg : glB S.sc "range" = true := by kernel_rfl) (hs : ∀ X : Cx, starEach [e] X.env = [(false, eval e X.env)] := by intro _; rfl) : SIV S tg (.Call (.Name "range" p) [e] [] pos) (iR1 f) := by
  obtain ⟨t, a1, a2⟩ := h
  refine ⟨iRng1 (tCons t tNil), fun X ok => pi_range1 (ok.gl hg) (by rw [ok.mg]; exact hm) (pa_cons (a1 X ok) pa_nil (by rw [hs X]; rfl)) (hs X), fun Γ σ H0 F H R ds E hf k => ?_⟩
  unfold iR1 at hf
  split at hf
  · next j q =>
    split at hf
    · next hj =>
      cases hf
      refine a2 Γ σ H0 F H _ _ E q fun v F1 H1 u1 l1 => ?_
      rw [big_eq] at hj
      exact ⟨j, by rw [l1.int], hj.1, hj.2, k _ F1 H1 u1 itR_rng⟩
    · cases hf
  · cases hf
def iR2 (f g : En → Option PyData) : En → Option (List PyData) := fun Γ => match f Γ, g Γ with
  | some (.int i), some (.int j) => if (-(big (2 ^ 62) : Int) ≤ i ∧ i < (big (2 ^ 62) : Int)) ∧ -(big (2 ^ 62) : Int) ≤ j ∧ j < (big (2 ^ 62) : Int) then some (rngD i (j - i).toNat) else none
  | _, _ => none
theorem siv_range2 {tg : Expr} {p pos : Pos} {e e2 : Expr} {f g} (h : SL S e f) (h2 : SL S e2 g) (hm : S.mg "range" = none) (hg : glB S.sc "range" = true := by kernel_rfl)
    (hs : ∀ X : Cx, starEach [e, e2] X.env = [(false, eval e X.env), (false, eval e2 X.env)] := by intro _; rfl) (hs2 : ∀ X : Cx, starEach [e2] X.env = [(false, eval e2 X.env)] := by intro _; rfl) : SIV S tg (.Call (.Name "range" p) [e, e2] [] pos) (iR2 f g) := by
  obtain ⟨t, a1, a2⟩ := h
  obtain ⟨u, b1, b2⟩ := h2
  refine ⟨iRng2 (tCons t (tCons u tNil)), fun X ok => pi_range2 (ok.gl hg) (by rw [ok.mg]; exact hm) (pa_cons (a1 X ok) (pa_cons (b1 X ok) pa_nil (by rw [hs2 X]; rfl)) (by rw [hs X, hs2 X])) (hs X) (hs2 X), fun Γ σ H0 F H R ds E hf k => ?_⟩
  unfold iR2 at hf
  split at hf
  · next i j q q' =>
    split at hf
    · next hj =>
      cases hf
      refine a2 Γ σ H0 F H _ _ E q fun v F1 H1 u1 l1 => ?_
      refine b2 Γ σ H0 F1 H1 _ _ (E.mono u1) q' fun v2 F2 H2 u2 l2 => ?_
      rw [big_eq] at hj
      exact ⟨i, j, by rw [l1.int, l2.int], ⟨hj.1.1, hj.1.2, hj.2.1, hj.2.2⟩, k _ F2 H2 (u1.trans u2) itR_rng⟩
    · cases hf
  · cases hf
def Agr (js : List Nat) (σ σ' : St) : Prop := σ'.length = σ.length ∧ ∀ k, k ∉ js → σ'[k]? = σ[k]?
def SG (S : Sx) (tg : Expr) (js : List Nat) (g : PyData → En → Option En) : Prop :=
  ∃ t : TG, (∀ X, S.Ok X → PG X tg t) ∧ ∀ H0 F H Γ σ v d Γ' Q, EnR S.K H0 F H Γ σ → Dp S.K F v d → g d Γ = some Γ' → (∀ σ', Agr js σ σ' → EnR S.K H0 F H Γ' σ' → Q σ' H) → t v σ H Q
def setE (i : Nat) (s : Sl) (Γ : En) : En := Γ.set i (some s)
theorem EnR.set_fz {K : PySem.W.Frag} {H0 F H : Hp} {Γ : En} {σ : St} {v : V} {d : PyData} (i : Nat) (E : EnR K H0 F H Γ σ) (hd : Dp K F v d) : EnR K H0 F H (setE i (.fz d) Γ) (σ.set i (some v)) := by
  have ln := E.ln
  refine ⟨E.fh, fun j s h => ?_, fun j xs a h1 h2 => ?_, fun j k xs ys a h1 h2 h3 h4 => ?_, by unfold setE; rw [List.length_set, List.length_set]; exact ln⟩
  · unfold setE at h
    rw [List.getElem?_set] at h ⊢
    split at h
    · next e =>
      split at h
      · cases h
        exact ⟨v, by rw [if_pos e, if_pos (by omega)], hd⟩
      · cases h
    · next e => rw [if_neg e]; exact E.sl j s h
  · unfold setE at h1
    rw [List.getElem?_set] at h1 h2
    split at h1
    · split at h1 <;> cases h1
    · next e => rw [if_neg e] at h2; exact E.nw j xs a h1 h2
  · unfold setE at h1 h2
    rw [List.getElem?_set] at h1 h2 h3 h4
    split at h1
    · split at h1 <;> cases h1
    · next e =>
      split at h2
      · split at h2 <;> cases h2
      · next e' => rw [if_neg e] at h3; rw [if_neg e'] at h4; exact E.ds j k xs ys a h1 h2 h3 h4
theorem agr_set (σ : St) (i : Nat) (v : Option V) : Agr [i] σ (σ.set i v) := ⟨List.length_set .., fun k hk => by rw [List.getElem?_set_ne (fun e : i = k => hk (by rw [e]; exact List.mem_cons_self))]⟩
def gNm (i : Nat) : PyData → En → Option En := fun d Γ => some (setE i (.fz d) Γ)
theorem sg_name (i : Nat) {x : Str} {pos : Pos} (hN : S.N[i]? = some x := by rfl) (hx : locB S.sc x = true := by kernel_rfl) (hf : (S.fn x || (S.sc.names.lookup x == some NameKind.local)) = true := by kernel_rfl) : SG S (.Name x pos) [i] (gNm i) := by
  refine ⟨gName i, fun X ok => pg_name (by rw [ok.N]; exact ok.nd) (by rw [ok.N]; exact hN) (by rw [ok.sc]; exact loc_of hx) ?_, fun H0 F H Γ σ v d Γ' Q E hd hg k => ?_⟩
  · rw [ok.fn, ok.sc]
    rw [Bool.or_eq_true] at hf
    exact hf.imp id fun h => by simpa using h
  · cases hg
    exact k _ (agr_set σ i _) (E.set_fz i hd)
def SGs (S : Sx) (ts : List Expr) (js : List Nat) (g : List PyData → En → Option En) : Prop :=
  ∃ t : TGs, (∀ X, S.Ok X → PGs X ts t) ∧ ∀ H0 F H Γ σ vs ds Γ' Q, EnR S.K H0 F H Γ σ → DpAll S.K F vs ds → g ds Γ = some Γ' → (∀ σ', Agr js σ σ' → EnR S.K H0 F H Γ' σ' → Q σ' H) → t vs σ H Q
def gsNil : List PyData → En → Option En := fun ds Γ => match ds with
  | [] => some Γ
  | _ => none
def gsCons (g : PyData → En → Option En) (h : List PyData → En → Option En) : List PyData → En → Option En := fun ds Γ => match ds with
  | d :: r => (g d Γ).bind (h r)
  | [] => none
theorem sgs_nil : SGs S [] [] gsNil := ⟨gNil, fun X _ => pgs_nil, fun H0 F H Γ σ vs ds Γ' Q E hd hg k => by
  cases hd with
  | nil => cases hg; exact ⟨rfl, k σ ⟨rfl, fun _ _ => rfl⟩ E⟩
  | cons _ _ => cases hg⟩
theorem sgs_cons {e : Expr} {es : List Expr} {js ks : List Nat} {g h} (h1 : SG S e js g) (h2 : SGs S es ks h) (hs : ∀ X : Cx, (assignEach (e :: es) X.env).map (·.2) = assign e X.env :: (assignEach es X.env).map (·.2) := by intro _; rfl) : SGs S (e :: es) (js ++ ks) (gsCons g h) := by
  obtain ⟨t, a1, a2⟩ := h1
  obtain ⟨u, b1, b2⟩ := h2
  refine ⟨gCons t u, fun X ok => pgs_cons (a1 X ok) (b1 X ok) (hs X), fun H0 F H Γ σ vs ds Γ' Q E hd hg k => ?_⟩
  cases hd with
  | nil => cases hg
  | cons d1 d2 =>
    unfold gsCons at hg
    simp only at hg
    cases q : g _ Γ with
    | none => rw [q] at hg; cases hg
    | some Γ1 =>
      rw [q] at hg
      refine ⟨_, _, rfl, a2 H0 F H Γ σ _ _ Γ1 _ E d1 q fun σ1 r1 E1 => ?_⟩
      refine b2 H0 F H Γ1 σ1 _ _ Γ' Q E1 d2 hg fun σ2 r2 E2 => k σ2 ⟨r2.1.trans r1.1, fun j hj => ?_⟩ E2
      rw [List.mem_append, not_or] at hj
      exact (r2.2 j hj.2).trans (r1.2 j hj.1)
def gTpl (n : Nat) (h : List PyData → En → Option En) : PyData → En → Option En := fun d Γ => match d with
  | .tuple ds => if ds.length = n then h ds Γ else none
  | _ => none
theorem sg_tup {es : List Expr} {kk : Nat} {pos : Pos} {js : List Nat} {n : Nat} {h} (h1 : SGs S es js h) (hn : ∀ X : Cx, (assignEach es X.env).length = n := by intro _; rfl) (hst : ∀ X : Cx, (assignEach es X.env).findIdx? (·.1) = none := by intro _; rfl) : SG S (.Tuple es kk pos) js (gTpl n h) := by
  obtain ⟨t, a1, a2⟩ := h1
  refine ⟨gTup S.K n t, fun X ok => ok.K ▸ pg_tup ok.calm (a1 X ok) (hn X) (hst X), fun H0 F H Γ σ v d Γ' Q E hd hg k => ?_⟩
  unfold gTpl at hg
  split at hg
  · split at hg
    · next hl =>
      cases hd with
      | tup q1 q2 => exact ⟨_, _, rfl, same_sqT E.fh q1, by rw [q2.length]; exact hl, a2 H0 F H Γ σ _ _ Γ' Q E q2 hg k⟩
    · cases hg
  · cases hg
def wipeE (Γ : En) : List Nat → En
  | [] => Γ
  | v :: vs => (wipeE Γ vs).set v none
theorem wipeE_len (Γ : En) : ∀ vs, (wipeE Γ vs).length = Γ.length
  | [] => rfl
  | v :: vs => by unfold wipeE; rw [List.length_set, wipeE_len Γ vs]
theorem wipe_get (σ : St) : ∀ (vs : List Nat) (k : Nat), (wipe σ vs)[k]? = if k ∈ vs then (if k < σ.length then some none else none) else σ[k]?
  | [], k => by simp [wipe]
  | v :: vs, k => by
    unfold wipe
    rw [List.getElem?_set, wipe_length, wipe_get σ vs k]
    by_cases e : v = k
    · subst e; simp
    · rw [if_neg e]
      by_cases h : k ∈ vs
      · rw [if_pos h, if_pos (List.mem_cons_of_mem _ h)]
      · rw [if_neg h, if_neg (fun q => (List.mem_cons.mp q).elim (fun z => e z.symm) h)]
theorem wipeE_get (Γ : En) : ∀ (vs : List Nat) (k : Nat), (wipeE Γ vs)[k]? = if k ∈ vs then (if k < Γ.length then some none else none) else Γ[k]?
  | [], k => by simp [wipeE]
  | v :: vs, k => by
    unfold wipeE
    rw [List.getElem?_set, wipeE_len, wipeE_get Γ vs k]
    by_cases e : v = k
    · subst e; simp
    · rw [if_neg e]
      by_cases h : k ∈ vs
      · rw [if_pos h, if_pos (List.mem_cons_of_mem _ h)]
      · rw [if_neg h, if_neg (fun q => (List.mem_cons.mp q).elim (fun z => e z.symm) h)]
theorem wipe_agr {σ σ' : St} {js vs : List Nat} (h : Agr js (wipe σ vs) σ') (hj : ∀ j ∈ js, j ∈ vs) : wipe σ' vs = wipe σ vs := by
  apply List.ext_getElem?
  intro k
  rw [wipe_get σ' vs k, h.1, wipe_length]
  by_cases e : k ∈ vs
  · rw [if_pos e, wipe_get σ vs k, if_pos e]
  · rw [if_neg e, h.2 k fun q => e (hj k q)]
theorem EnR.wipe {K : PySem.W.Frag} {H0 F H : Hp} {Γ : En} {σ : St} (E : EnR K H0 F H Γ σ) (vs : List Nat) : EnR K H0 F H (wipeE Γ vs) (L2.wipe σ vs) := by
  have some_of : ∀ {k : Nat} {s : Sl}, (wipeE Γ vs)[k]? = some (some s) → k ∉ vs ∧ Γ[k]? = some (some s) := fun {k s} h => by
    rw [wipeE_get] at h
    split at h
    · split at h <;> cases h
    · next e => exact ⟨e, h⟩
  have get : ∀ {k : Nat}, k ∉ vs → (L2.wipe σ vs)[k]? = σ[k]? := fun {k} h => by rw [wipe_get, if_neg h]
  refine ⟨E.fh, fun i s h => ?_, fun i xs a h1 h2 => ?_, fun i j xs ys a h1 h2 h3 h4 => ?_, by rw [wipeE_len, wipe_length]; exact E.ln⟩
  · obtain ⟨h1, h2⟩ := some_of h
    obtain ⟨v, h3, h4⟩ := E.sl i s h2
    exact ⟨v, by rw [get h1]; exact h3, h4⟩
  · obtain ⟨q1, q2⟩ := some_of h1
    rw [get q1] at h2
    exact E.nw i xs a q2 h2
  · obtain ⟨q1, q2⟩ := some_of h1
    obtain ⟨q3, q4⟩ := some_of h2
    rw [get q1] at h3
    rw [get q3] at h4
    exact E.ds i j xs ys a q2 q4 h3 h4
def Sx.blk (S : Sx) (scope : Scope) : Sx := { S with sc := relS scope S.sc, fn := fun x => scope.names.lookup x == some .cell }
theorem Sx.Ok.blk {S : Sx} {X : Cx} (ok : S.Ok X) (s : Shared) (H : Hp) (scope : Scope) (C : Addr) (cl : List (Str × Addr)) (fp : List Addr) : (S.blk scope).Ok (X.blk s H scope (compEnvC scope cl C X.env) fp) where
  P := ok.P
  w := ok.w
  K := ok.K
  mg := ok.mg
  base := ok.base
  N := ok.N
  sc := by
    show relabel scope X.env = relS scope S.sc
    rw [← ok.sc]; rfl
  room := ok.room
  calm := ok.calm
  nd := ok.nd
  fn := rfl
  pass := PassesOwn.never
def SC (S : Sx) (ifs : List Expr) (f : En → Option Bool) : Prop :=
  ∃ t : TT, (∀ X, S.Ok X → PTs X ifs t) ∧ ∀ Γ σ H0 F H Q b, EnR S.K H0 F H Γ σ → f Γ = some b → (∀ F' H', Sub F H F' H' → Q b H') → t σ H Q
def bYes : En → Option Bool := fun _ => some true
theorem sc_nil : SC S [] bYes := ⟨tYes, fun X _ => pts_nil, fun Γ σ H0 F H Q b E hf k => by cases hf; exact k F H (.refl E.fh)⟩
theorem sc_one {c : Expr} {f} (h : ST S c f) : SC S [c] f := by
  obtain ⟨t, a1, a2⟩ := h
  exact ⟨t, fun X ok => pts_one (a1 X ok), a2⟩
def lcD (g : PyData → En → Option En) (c : En → Option Bool) (fe : En → Option PyData) (Γ : En) : List PyData → Option (List PyData)
  | [] => some []
  | x :: xs => (g x Γ).bind fun Γ1 => (c Γ1).bind fun b => if b = true then (fe Γ1).bind fun y => (lcD g c fe Γ xs).map (y :: ·) else lcD g c fe Γ xs
def vLc (items : En → Option (List PyData)) (g : PyData → En → Option En) (c : En → Option Bool) (fe : En → Option PyData) (vs : List Nat) : En → Option Sl := fun Γ =>
  (items Γ).bind fun ds => if ds.length < cap then (lcD g c fe (wipeE Γ vs) ds).map Sl.ow else none
theorem lc_sem {scope : Scope} {vs js : List Nat} {wi : TI} {t : TG} {tt : TT} {te : TE} {fi g c fe}
    (hi : ∀ Γ σ H0 F H R ds, EnR S.K H0 F H Γ σ → fi Γ = some ds → (∀ J F' H', Sub F H F' H' → ItR S.K F' H' J ds → R J H') → wi σ H R)
    (hg : ∀ H0 F H Γ σ v d Γ' Q, EnR S.K H0 F H Γ σ → Dp S.K F v d → g d Γ = some Γ' → (∀ σ', Agr js σ σ' → EnR S.K H0 F H Γ' σ' → Q σ' H) → t v σ H Q)
    (hc : ∀ Γ σ H0 F H Q b, EnR S.K H0 F H Γ σ → c Γ = some b → (∀ F' H', Sub F H F' H' → Q b H') → tt σ H Q)
    (he : ∀ Γ σ H0 F H Q d, EnR S.K H0 F H Γ σ → fe Γ = some d → (∀ v F' H', Sub F H F' H' → Dp S.K F' v d → Q v H') → te σ H Q) (hj : ∀ j ∈ js, j ∈ vs) :
    ∀ Γ σ H0 F H Q s, EnR S.K H0 F H Γ σ → vLc fi g c fe vs Γ = some s → (∀ v F' H', Sub F H F' H' → SlN S.K H F' H' s v → Q v H') → tLc wi t tt te vs σ H Q := by
  intro Γ σ H0 F H Q s E hf k
  unfold vLc at hf
  cases q : fi Γ with
  | none => rw [q] at hf; cases hf
  | some ds =>
    rw [q] at hf
    simp only [Option.bind_some] at hf
    split at hf
    · next hz =>
      cases q2 : lcD g c fe (wipeE Γ vs) ds with
      | none => rw [q2] at hf; cases hf
      | some out =>
        rw [q2] at hf; cases hf
        refine hi Γ σ H0 F H _ ds E q fun J F1 H1 u1 it D hD => ?_
        refine ⟨fun i m H2 => m = ds.length - i ∧ i ≤ ds.length ∧ ∃ F2 acc ys rest, Same F1 F2 ∧ Same F2 H2 ∧ Same H1 H2 ∧ (∀ a o, H1 a = some o → F1 a = none → F2 a = none) ∧ F2 D = none ∧ H2 D = some (.lst acc) ∧ DpAll S.K F2 acc ys ∧ acc.length ≤ i ∧
          lcD g c fe (wipeE Γ vs) (ds.drop i) = some rest ∧ ys ++ rest = out, ⟨ds.length, by simp, Nat.zero_le _, F1, [], [], out, .refl _, u1.fh.trans (same_new hD), same_new hD, fun _ _ _ h => h, u1.fh.free hD, upd_same, .nil, Nat.le_refl _, by simpa using q2, rfl⟩, ?_⟩
        rintro i m H2 ⟨rfl, hi', F2, acc, ys, rest, s1, s2, s3, own, fD, hacc, hda, hal, hr, hout⟩
        have u2 : Sub F H F2 H2 := ⟨u1.f.trans s1, u1.h.trans s3, s2, fun a o h1 h2 => own a o (u1.h a o h1) (u1.o a o h1 h2)⟩
        have E2 : EnR S.K H0 F2 H2 (wipeE Γ vs) (L2.wipe σ vs) := (E.wipe vs).mono u2
        obtain ⟨go, stop⟩ := it i F2 H2 s1 s2 s3
        by_cases hlt : i < ds.length
        · obtain ⟨g1, g2⟩ := go hlt
          refine .inr ⟨g1, fun H' => ∃ F3 acc' ys' rest', Same F1 F3 ∧ Same F3 H' ∧ Same H1 H' ∧ (∀ a o, H1 a = some o → F1 a = none → F3 a = none) ∧ F3 D = none ∧ H' D = some (.lst acc') ∧ DpAll S.K F3 acc' ys' ∧ acc'.length ≤ i + 1 ∧
            lcD g c fe (wipeE Γ vs) (ds.drop (i + 1)) = some rest' ∧ ys' ++ rest' = out, fun H' z => ⟨ds.length - (i + 1), by omega, rfl, hlt, z⟩, fun x H3 yl => ?_⟩
          obtain ⟨F3, d, hd, u3, hx⟩ := g2 x H3 yl
          have hdr : ds.drop i = d :: ds.drop (i + 1) := by
            obtain ⟨h1, h2⟩ := List.getElem?_eq_some_iff.mp hd
            rw [List.drop_eq_getElem_cons h1, h2]
          rw [hdr] at hr
          unfold lcD at hr
          cases r1 : g d (wipeE Γ vs) with
          | none => rw [r1] at hr; cases hr
          | some Γ1 =>
            rw [r1] at hr
            simp only [Option.bind_some] at hr
            cases r2 : c Γ1 with
            | none => rw [r2] at hr; cases hr
            | some b =>
              rw [r2] at hr
              simp only [Option.bind_some] at hr
              refine hg H0 F3 H3 _ _ x d Γ1 _ (E2.mono u3) hx r1 fun σ2 ag E3 => ⟨wipe_agr ag hj, ?_⟩
              refine hc Γ1 σ2 H0 F3 H3 _ b E3 r2 fun F4 H4 u4 => ?_
              have u34 := u3.trans u4
              have D4 : H4 D = some (.lst acc) := u34.h D _ hacc
              have fD4 : F4 D = none := u34.o D _ hacc fD
              cases b with
              | false =>
                rw [if_neg Bool.false_ne_true] at hr
                refine iteF ⟨F4, acc, ys, rest, s1.trans u34.f, u34.fh, s3.trans u34.h, fun a o h1 h2 => u34.o a o (s3 a o h1) (own a o h1 h2), fD4, D4, dpAll_mono u34.f hda, Nat.le_succ_of_le hal, hr, hout⟩
              | true =>
                rw [if_pos rfl] at hr
                cases r3 : fe Γ1 with
                | none => rw [r3] at hr; cases hr
                | some y =>
                  rw [r3] at hr
                  simp only [Option.bind_some] at hr
                  cases r4 : lcD g c fe (wipeE Γ vs) (ds.drop (i + 1)) with
                  | none => rw [r4] at hr; cases hr
                  | some rest' =>
                    rw [r4] at hr; cases hr
                    refine iteT (he Γ1 σ2 H0 F4 H4 _ y (E3.mono u4) r3 fun v F5 H5 u5 hv => ?_)
                    have D5 : H5 D = some (.lst acc) := u5.h D _ D4
                    have fD5 : F5 D = none := u5.o D _ D4 fD4
                    refine ⟨acc, D5, cap_lt (Nat.lt_of_le_of_lt hal (Nat.lt_trans hlt hz)), F5, acc ++ [v], ys ++ [y], rest', (s1.trans u34.f).trans u5.f, fun b o e => ?_, fun b o e => ?_, fun a o h1 h2 => u5.o a o (u34.h a o (s3 a o h1)) (u34.o a o (s3 a o h1) (own a o h1 h2)), fD5, upd_same, (dpAll_mono (u34.f.trans u5.f) hda).snoc hv, by rw [List.length_append]; exact Nat.succ_le_succ hal, rfl, by rw [List.append_assoc]; exact hout⟩
                    · rw [upd_ne (fun z => by rw [z, fD5] at e; cases e)]; exact u5.fh b o e
                    · rw [upd_ne (ne_of_none e hD)]; exact u5.h b o (u34.h b o (s3 b o e))
        · have e : i = ds.length := by omega
          subst e
          rw [List.drop_length] at hr
          cases hr
          rw [List.append_nil] at hout
          subst hout
          refine .inl ⟨stop (Nat.le_refl _), k _ F2 H2 u2 ⟨⟨D, acc, rfl, fD, hacc, hda⟩, fun _ a _ e => ?_⟩⟩
          cases e
          exact u1.h.free hD
    · cases hf
theorem se_lc {elt tg iter : Expr} {ifs : List Expr} {scope : Scope} {pos : Pos} (own : List (Str × Nat)) {js : List Nat} {fi g c fe} (hi : SI S tg iter fi) (ok : blkC S.N S.sc scope own = true) (hg : SG (S.blk scope) tg js g) (hc : SC (S.blk scope) ifs c) (he : SV (S.blk scope) elt fe) (hj : ∀ j ∈ js, j ∈ own.map (·.2))
    (hs : ∀ (X : Cx) x, foldedSetIterable iter X.env x = pure x := by intro _ _; rfl) : SE S (.ListComp elt [⟨tg, iter, ifs, 0⟩] scope pos) (vLc fi g c fe (own.map (·.2))) := by
  obtain ⟨wi, i1, i2⟩ := hi
  obtain ⟨t, g1, g2⟩ := hg
  obtain ⟨tt, c1, c2⟩ := hc
  obtain ⟨te, e1, e2⟩ := he
  refine ⟨tLc wi t tt te (own.map (·.2)), fun X okx => ?_, lc_sem (scope := scope) i2 g2 c2 e2 hj⟩
  exact pe_lc okx.calm (by rw [okx.N]; exact okx.nd) (i1 X okx) (by rw [okx.N, okx.sc]; exact blkOk_by ok) (fun s H C cl fp => g1 _ (okx.blk s H scope C cl fp)) (fun s H C cl fp => c1 _ (okx.blk s H scope C cl fp)) (fun s H C cl fp => e1 _ (okx.blk s H scope C cl fp)) (hs X)
theorem FnD.blk {S : Sx} {x : Str} {ps : List Str} {m} (scope : Scope) (G : FnD S x ps m) : FnD (S.blk scope) x ps m := ⟨G.ex⟩
def ALen (g : En → Option (List PyData)) (n : Nat) : Prop := ∀ Γ ds, g Γ = some ds → ds.length = n
theorem alen_nil : ALen aNil 0 := fun Γ ds h => by cases h; rfl
theorem alen_cons {f g} {n : Nat} (h : ALen g n) : ALen (aCons f g) (n + 1) := fun Γ ds e => by
  unfold aCons at e
  cases q : f Γ with
  | none => rw [q] at e; cases e
  | some d =>
    rw [q] at e
    cases q2 : g Γ with
    | none => rw [q2] at e; cases e
    | some r => rw [q2] at e; cases e; rw [List.length_cons, h Γ r q2]
end
end
end Bd
namespace Bd
open PySem L2
noncomputable section
section
variable {X : Cx}
end
inductive Out where
  | nx (Γ : En) | rt (s : Sl) | bk (Γ : En) | ct (Γ : En)
structure StR (K : PySem.W.Frag) (F0 H0 F H : Hp) (Γ : En) (σ : St) : Prop where
  en : EnR K H0 F H Γ σ
  su : Sub F0 H0 F H
def Kp (T : List Nat) (Γ : En) (σ : St) (H : Hp) (Γ' : En) (σ' : St) (H' : Hp) : Prop :=
  ∀ (j : Nat), j ∉ T → Γ'[j]? = Γ[j]? ∧ σ'[j]? = σ[j]? ∧ ∀ xs a, Γ[j]? = some (some (.ow xs)) → σ[j]? = some (some (.ref a)) → H' a = H a
theorem Kp.trans {T U : List Nat} {Γ Γ1 Γ2 : En} {σ σ1 σ2 : St} {H H1 H2 : Hp} (a : Kp T Γ σ H Γ1 σ1 H1) (b : Kp U Γ1 σ1 H1 Γ2 σ2 H2) : Kp (T ++ U) Γ σ H Γ2 σ2 H2 := fun j hj => by
  rw [List.mem_append, not_or] at hj
  obtain ⟨a1, a2, a3⟩ := a j hj.1
  obtain ⟨b1, b2, b3⟩ := b j hj.2
  exact ⟨b1.trans a1, b2.trans a2, fun xs x h1 h2 => (b3 xs x (a1.trans h1) (a2.trans h2)).trans (a3 xs x h1 h2)⟩
theorem Kp.mono {T U : List Nat} {Γ Γ1 : En} {σ σ1 : St} {H H1 : Hp} (a : Kp T Γ σ H Γ1 σ1 H1) (h : ∀ j ∈ T, j ∈ U) : Kp U Γ σ H Γ1 σ1 H1 := fun j hj => a j fun q => hj (h j q)
theorem Kp.refl {Γ : En} {σ : St} {H : Hp} : Kp [] Γ σ H Γ σ H := fun j _ => ⟨rfl, rfl, fun _ _ _ _ => rfl⟩
theorem EnR.kp {K : PySem.W.Frag} {H0 F H H' : Hp} {Γ : En} {σ : St} (E : EnR K H0 F H Γ σ) (s : Same H H') : Kp [] Γ σ H Γ σ H' := fun j _ => ⟨rfl, rfl, fun xs a h1 h2 => by
  obtain ⟨v, e1, b, vs, rfl, _, e2, _⟩ := E.sl j _ h1
  rw [h2] at e1; cases e1
  rw [e2, s _ _ e2]⟩
def EndR (K : PySem.W.Frag) (F0 H0 : Hp) (T : List Nat) (Γ0 : En) (σ0 : St) (Hs : Hp) (D : Ends) : Out → Prop
  | .nx Γ => ∀ σ F H, StR K F0 H0 F H Γ σ → Kp T Γ0 σ0 Hs Γ σ H → D.nx σ H
  | .bk Γ => ∀ σ F H, StR K F0 H0 F H Γ σ → Kp T Γ0 σ0 Hs Γ σ H → D.bk σ H
  | .ct Γ => ∀ σ F H, StR K F0 H0 F H Γ σ → Kp T Γ0 σ0 Hs Γ σ H → D.ct σ H
  | .rt s => ∀ v F H, Sub F0 H0 F H → SlN K H0 F H s v → D.rt v H
def SS (S : Sx) (st : Stmt) (T : List Nat) (g : En → Option Out) : Prop :=
  ∃ t : TS, (∀ X, S.Ok X → PS X st t) ∧ ∀ F0 H0 F H Γ σ D o, StR S.K F0 H0 F H Γ σ → g Γ = some o → EndR S.K F0 H0 T Γ σ H D o → t D σ H
def SSs (S : Sx) (sts : List Stmt) (T : List Nat) (g : En → Option Out) : Prop :=
  ∃ t : TS, (∀ X, S.Ok X → PSs X sts t) ∧ ∀ F0 H0 F H Γ σ D o, StR S.K F0 H0 F H Γ σ → g Γ = some o → EndR S.K F0 H0 T Γ σ H D o → t D σ H
theorem EndR.step {K : PySem.W.Frag} {F0 H0 Hs H1 : Hp} {T U : List Nat} {Γ0 Γ1 : En} {σ0 σ1 : St} {D : Ends} {o : Out} (k : EndR K F0 H0 (T ++ U) Γ0 σ0 Hs D o) (a : Kp T Γ0 σ0 Hs Γ1 σ1 H1) : EndR K F0 H0 U Γ1 σ1 H1 D o := by
  cases o with
  | nx Γ => exact fun σ F H R z => k σ F H R (a.trans z)
  | bk Γ => exact fun σ F H R z => k σ F H R (a.trans z)
  | ct Γ => exact fun σ F H R z => k σ F H R (a.trans z)
  | rt s => exact k
theorem EndR.wide {K : PySem.W.Frag} {F0 H0 Hs : Hp} {T U : List Nat} {Γ0 : En} {σ0 : St} {D : Ends} {o : Out} (k : EndR K F0 H0 U Γ0 σ0 Hs D o) (h : ∀ j ∈ T, j ∈ U) : EndR K F0 H0 T Γ0 σ0 Hs D o := by
  cases o with
  | nx Γ => exact fun σ F H R z => k σ F H R (z.mono h)
  | bk Γ => exact fun σ F H R z => k σ F H R (z.mono h)
  | ct Γ => exact fun σ F H R z => k σ F H R (z.mono h)
  | rt s => exact k
theorem StR.mono {K : PySem.W.Frag} {F0 H0 F H F' H' : Hp} {Γ : En} {σ : St} (R : StR K F0 H0 F H Γ σ) (u : Sub F H F' H') : StR K F0 H0 F' H' Γ σ := ⟨R.en.mono u, R.su.trans u⟩
section
variable {S : Sx}
def oNil : En → Option Out := fun Γ => some (.nx Γ)
theorem ss_nil : SSs S [] [] oNil := ⟨tNext, fun X _ => pss_nil, fun F0 H0 F H Γ σ D o R hg k => by cases hg; exact k σ F H R .refl⟩
def oSeq (g h : En → Option Out) : En → Option Out := fun Γ => match g Γ with
  | some (.nx Γ') => h Γ'
  | r => r
theorem ss_cons {st : Stmt} {rest : List Stmt} {T U : List Nat} {g h} (h1 : SS S st T g) (h2 : SSs S rest U h) : SSs S (st :: rest) (T ++ U) (oSeq g h) := by
  obtain ⟨t, a1, a2⟩ := h1
  obtain ⟨u, b1, b2⟩ := h2
  refine ⟨tSeq t u, fun X ok => pss_cons (a1 X ok) (b1 X ok), fun F0 H0 F H Γ σ D o R hg k => ?_⟩
  unfold oSeq at hg
  cases q : g Γ with
  | none => rw [q] at hg; cases hg
  | some o1 =>
    rw [q] at hg
    refine a2 F0 H0 F H Γ σ _ o1 R q ?_
    cases o1 with
    | nx Γ' => exact fun σ1 F1 H1 R1 z => b2 F0 H0 F1 H1 Γ' σ1 D o R1 hg (k.step z)
    | rt s => cases hg; exact k
    | bk Γ' => cases hg; exact k.wide fun j h => List.mem_append_left _ h
    | ct Γ' => cases hg; exact k.wide fun j h => List.mem_append_left _ h
def oRet (f : En → Option Sl) : En → Option Out := fun Γ => (f Γ).map Out.rt
theorem ss_ret {e : Expr} {pos f} (h : SE S e f) : SS S (.Return (some e) pos) [] (oRet f) := by
  obtain ⟨t, a1, a2⟩ := h
  refine ⟨tRet t, fun X ok => ps_ret (a1 X ok), fun F0 H0 F H Γ σ D o R hg k => ?_⟩
  unfold oRet at hg
  cases q : f Γ with
  | none => rw [q] at hg; cases hg
  | some s =>
    rw [q] at hg; cases hg
    exact a2 Γ σ H0 F H _ s R.en q fun v F' H' u l => k v F' H' (R.su.trans u) (l.weak R.su.h)
def oRetV (i : Nat) : En → Option Out := fun Γ => match Γ[i]? with
  | some (some s) => some (.rt s)
  | _ => none
theorem ss_retv (i : Nat) {x : Str} {p pos : Pos} (hN : S.N[i]? = some x := by rfl) (hv : visB S.sc x = true := by kernel_rfl) (hd : (x == ("__debug__" : Str)) = false := by decide) (hcd : (x == ("__classdict__" : Str)) = false := by decide) : SS S (.Return (some (.Name x p)) pos) [] (oRetV i) := by
  refine ⟨tRet (tVar i), fun X ok => ps_ret (pe_var (by rw [ok.N]; exact hN) (by rw [ok.sc]; exact vis_of hv) hd hcd), fun F0 H0 F H Γ σ D o R hg k => ?_⟩
  unfold oRetV at hg
  split at hg
  · next s q =>
    cases hg
    obtain ⟨v, h1, h2⟩ := R.en.sl i s q
    refine ⟨v, h1, k v F H R.su ⟨h2, fun xs a e1 e2 => ?_⟩⟩
    subst e1 e2
    exact R.en.nw i xs a q h1
  · cases hg
theorem EnR.set_sl {K : PySem.W.Frag} {H0 F H F' H' : Hp} {Γ : En} {σ : St} {v : V} {s : Sl} (i : Nat) (E : EnR K H0 F H Γ σ) (s0 : Same H0 H) (u : Sub F H F' H') (h : SlN K H F' H' s v) : EnR K H0 F' H' (setE i s Γ) (σ.set i (some v)) := by
  have E' := E.mono u
  have ln := E.ln
  have old : ∀ (j : Nat) (xs : List PyData) (a : Addr), Γ[j]? = some (some (.ow xs)) → σ[j]? = some (some (.ref a)) → ∃ o, H a = some o := fun j xs a h1 h2 => by
    obtain ⟨v', e1, e2⟩ := E.sl j _ h1
    rw [h2] at e1; cases e1
    obtain ⟨a', vs, e3, _, e4, _⟩ := e2
    cases e3; exact ⟨_, e4⟩
  refine ⟨E'.fh, fun j s' hj => ?_, fun j xs a h1 h2 => ?_, fun j k xs ys a h1 h2 h3 h4 => ?_, by unfold setE; rw [List.length_set, List.length_set]; exact ln⟩
  · unfold setE at hj
    rw [List.getElem?_set] at hj ⊢
    split at hj
    · next e =>
      split at hj
      · cases hj
        exact ⟨v, by rw [if_pos e, if_pos (by omega)], h.1⟩
      · cases hj
    · next e => rw [if_neg e]; exact E'.sl j s' hj
  · unfold setE at h1
    rw [List.getElem?_set] at h1 h2
    split at h1
    · next e =>
      rw [if_pos e] at h2
      split at h1
      · cases h1
        split at h2
        · cases h2; exact s0.free (h.2 xs a rfl rfl)
        · cases h2
      · cases h1
    · next e => rw [if_neg e] at h2; exact E'.nw j xs a h1 h2
  · unfold setE at h1 h2
    rw [List.getElem?_set] at h1 h2 h3 h4
    by_cases e : i = j
    · by_cases e' : i = k
      · exact e.symm.trans e'
      · exfalso
        rw [if_pos e] at h1 h3
        rw [if_neg e'] at h2 h4
        split at h1
        · cases h1
          split at h3
          · cases h3
            obtain ⟨o, q⟩ := old k ys a h2 h4
            rw [h.2 xs a rfl rfl] at q; cases q
          · cases h3
        · cases h1
    · by_cases e' : i = k
      · exfalso
        rw [if_neg e] at h1 h3
        rw [if_pos e'] at h2 h4
        split at h2
        · cases h2
          split at h4
          · cases h4
            obtain ⟨o, q⟩ := old j xs a h1 h3
            rw [h.2 ys a rfl rfl] at q; cases q
          · cases h4
        · cases h2
      · rw [if_neg e] at h1 h3
        rw [if_neg e'] at h2 h4
        exact E'.ds j k xs ys a h1 h2 h3 h4
theorem kp_set {K : PySem.W.Frag} {H0 F H H' : Hp} {Γ : En} {σ : St} {i : Nat} {s : Sl} {v : Option V} (E : EnR K H0 F H Γ σ) (sm : Same H H') : Kp [i] Γ σ H (setE i s Γ) (σ.set i v) H' := fun j hj => by
  have ne : i ≠ j := fun e => hj (by rw [e]; exact List.mem_cons_self)
  obtain ⟨_, _, q⟩ := E.kp sm j (by simp)
  exact ⟨List.getElem?_set_ne ne, List.getElem?_set_ne ne, q⟩
theorem kp_write {K : PySem.W.Frag} {H0 F H H1 : Hp} {Γ : En} {σ : St} {i : Nat} {a : Addr} {s : Sl} {xs : List PyData} {o : HO} (E : EnR K H0 F H Γ σ) (sm : Same H H1) (hi : Γ[i]? = some (some (.ow xs))) (hs : σ[i]? = some (some (.ref a))) : Kp [i] Γ σ H (setE i s Γ) σ (upd H1 a o) := fun j hj => by
  have ne : i ≠ j := fun e => hj (by rw [e]; exact List.mem_cons_self)
  obtain ⟨_, _, q⟩ := E.kp sm j (by simp)
  refine ⟨List.getElem?_set_ne ne, rfl, fun ys b h1 h2 => ?_⟩
  have nb : b ≠ a := fun z => by subst z; exact ne (E.ds i j xs ys b hi h1 hs h2)
  rw [upd_ne nb]
  exact q ys b h1 h2
def oSet (i : Nat) (f : En → Option Sl) : En → Option Out := fun Γ => (f Γ).map fun s => .nx (setE i s Γ)
theorem fn_or {X : Cx} {x : Str} (ok : S.Ok X) (hf : (S.fn x || (S.sc.names.lookup x == some NameKind.local)) = true) : X.fn x = true ∨ X.env.scope.names.lookup x = some .local := by
  rw [ok.fn, ok.sc]
  rw [Bool.or_eq_true] at hf
  exact hf.imp id fun h => by simpa using h
theorem ss_set (i : Nat) {x : Str} {e : Expr} {p pos : Pos} {f} (h : SE S e f) (hN : S.N[i]? = some x := by rfl) (hx : locB S.sc x = true := by kernel_rfl) (hf : (S.fn x || (S.sc.names.lookup x == some NameKind.local)) = true := by kernel_rfl) (hs : ∀ X : Cx, swapsWith e (some (.Name x p)) pos.line X.env = pure false := by intro _; rfl) :
    SS S (.Assign [.Name x p] e pos) [i] (oSet i f) := by
  obtain ⟨t, a1, a2⟩ := h
  refine ⟨tAsg t (gName i), fun X ok => ps_set (by rw [ok.N]; exact ok.nd) (by rw [ok.N]; exact hN) (by rw [ok.sc]; exact loc_of hx) (a1 X ok) (hs X) (fn_or ok hf), fun F0 H0 F H Γ σ D o R hg k => ?_⟩
  unfold oSet at hg
  cases q : f Γ with
  | none => rw [q] at hg; cases hg
  | some s =>
    rw [q] at hg; cases hg
    exact a2 Γ σ H0 F H _ s R.en q fun v F' H' u l => k _ F' H' ⟨R.en.set_sl i R.su.h u l, R.su.trans u⟩ (kp_set R.en u.h)
theorem EnR.write {K : PySem.W.Frag} {H0 F H : Hp} {Γ : En} {σ : St} {i : Nat} {a : Addr} {xs ys : List PyData} {vs us : List V} (E : EnR K H0 F H Γ σ) (hi : Γ[i]? = some (some (.ow xs))) (hs : σ[i]? = some (some (.ref a))) (hH : H a = some (.lst vs)) (hF : F a = none) (hd : DpAll K F us ys) :
    EnR K H0 F (upd H a (.lst us)) (setE i (.ow ys) Γ) σ := by
  have fh : Same F (upd H a (.lst us)) := fun b o e => by rw [upd_ne (fun z => by rw [z, hF] at e; cases e)]; exact E.fh b o e
  have il : i < Γ.length := (List.getElem?_eq_some_iff.mp hi).1
  refine ⟨fh, fun j s hj => ?_, fun j zs b h1 h2 => ?_, fun j k zs ws b h1 h2 h3 h4 => ?_, by unfold setE; rw [List.length_set]; exact E.ln⟩
  · unfold setE at hj
    rw [List.getElem?_set] at hj
    split at hj
    · next e =>
      subst e
      cases hj
      exact ⟨.ref a, hs, a, us, rfl, hF, upd_same, hd⟩
    · next e =>
      obtain ⟨v, h1, h2⟩ := E.sl j s hj
      refine ⟨v, h1, ?_⟩
      cases s with
      | fz d => exact h2
      | ow zs =>
        obtain ⟨b, ws, rfl, q1, q2, q3⟩ := h2
        have ne : b ≠ a := fun z => by subst z; exact e (E.ds i j xs zs b hi hj hs h1)
        exact ⟨b, ws, rfl, q1, by rw [upd_ne ne]; exact q2, q3⟩
  · unfold setE at h1
    rw [List.getElem?_set] at h1
    split at h1
    · next e => subst e; exact E.nw i xs b hi h2
    · exact E.nw j zs b h1 h2
  · unfold setE at h1 h2
    rw [List.getElem?_set] at h1 h2
    have w1 : ∃ zs, Γ[j]? = some (some (.ow zs)) := by
      split at h1
      · next e => subst e; exact ⟨xs, hi⟩
      · exact ⟨_, h1⟩
    have w2 : ∃ zs, Γ[k]? = some (some (.ow zs)) := by
      split at h2
      · next e => subst e; exact ⟨xs, hi⟩
      · exact ⟨_, h2⟩
    obtain ⟨_, w1⟩ := w1
    obtain ⟨_, w2⟩ := w2
    exact E.ds j k _ _ b w1 w2 h3 h4
theorem StR.write {K : PySem.W.Frag} {F0 H0 F H : Hp} {Γ : En} {σ : St} {i : Nat} {a : Addr} {xs ys : List PyData} {vs us : List V} (R : StR K F0 H0 F H Γ σ) (hi : Γ[i]? = some (some (.ow xs))) (hs : σ[i]? = some (some (.ref a))) (hH : H a = some (.lst vs)) (hF : F a = none) (hd : DpAll K F us ys) :
    StR K F0 H0 F (upd H a (.lst us)) (setE i (.ow ys) Γ) σ := by
  have E := R.en.write hi hs hH hF hd
  refine ⟨E, R.su.f, fun b o e => ?_, E.fh, R.su.o⟩
  rw [upd_ne (ne_of_none e (R.en.nw i xs a hi hs))]
  exact R.su.h b o e
def oApp (i : Nat) (f : En → Option PyData) : En → Option Out := fun Γ => match Γ[i]?, f Γ with
  | some (some (.ow xs)), some d => if xs.length < cap then some (.nx (setE i (.ow (xs ++ [d])) Γ)) else none
  | _, _ => none
theorem ss_append (i : Nat) {x : Str} {e : Expr} {p apos cpos pos : Pos} {f} (h : SV S e f) (hN : S.N[i]? = some x := by rfl) (hv : visB S.sc x = true := by kernel_rfl) (hd : (x == ("__debug__" : Str)) = false := by decide) (hcd : (x == ("__classdict__" : Str)) = false := by decide)
    (hbase : ∀ X : Cx, attributeBase (.Name x p) "append" X.env (eval (.Name x p) X.env) = eval (.Name x p) X.env := by intro _; rfl) (hline : (apos.endLine == cpos.line) = true := by rfl) (he : ∀ X : Cx, starEach [e] X.env = (false, eval e X.env) :: starEach [] X.env := by intro _; rfl)
    (hs : ∀ X : Cx, swapsWith (.Call (.Attribute (.Name x p) "append" apos) [e] [] cpos) none pos.line X.env = pure false := by intro _; rfl) :
    SS S (.Expr (.Call (.Attribute (.Name x p) "append" apos) [e] [] cpos) pos) [i] (oApp i f) := by
  obtain ⟨t, a1, a2⟩ := h
  refine ⟨tDrop (tBM S.K "list" rAppend (tVar i) (tCons t tNil)), fun X ok => ?_, fun F0 H0 F H Γ σ D o R hg k => ?_⟩
  · refine ps_expr (ok.K ▸ pe_bm PySem.F.plainAttrs_list PySem.F.slot_list_append PySem.F.type_list_append mt_append (pe_var (by rw [ok.N]; exact hN) (by rw [ok.sc]; exact vis_of hv) hd hcd) (pa_cons (a1 X ok) pa_nil (he X)) (hbase X) (by rw [he X]; rfl) hline (he X) rfl) (hs X)
  · unfold oApp at hg
    split at hg
    · next xs d q1 q2 =>
      split at hg
      · next hz =>
        cases hg
        obtain ⟨v, h1, a, vs, rfl, hF, hH, hda⟩ := R.en.sl i _ q1
        refine ⟨_, h1, .inl ⟨rfl, vs, SqL.of hH⟩, ?_⟩
        refine a2 Γ σ H0 F H _ d R.en q2 fun v F1 H1 u1 l1 => ?_
        have R1 := R.mono u1
        refine ⟨a, vs, v, rfl, rfl, u1.h _ _ hH, by rw [hda.length]; exact cap_lt hz, ?_⟩
        exact k _ F1 _ (R1.write q1 h1 (u1.h _ _ hH) (u1.o a _ hH hF) ((dpAll_mono u1.f hda).snoc l1)) (kp_write R.en u1.h q1 h1)
      · cases hg
    · cases hg
def oExt (i : Nat) (f : En → Option PyData) : En → Option Out := fun Γ => match Γ[i]?, f Γ with
  | some (some (.ow xs)), some (.list ys) => if xs.length + ys.length ≤ cap then some (.nx (setE i (.ow (xs ++ ys)) Γ)) else none
  | _, _ => none
end
end
end Bd
namespace Bd
open PySem L2
noncomputable section
section
variable {S : Sx}
def oIf (c : En → Option Bool) (g h : En → Option Out) : En → Option Out := fun Γ => match c Γ with
  | some true => g Γ
  | some false => h Γ
  | none => none
theorem ss_if {c : Expr} {a b : List Stmt} {pos : Pos} {f g h} {T U : List Nat} (hc : ST S c f) (ha : SSs S a T g) (hb : SSs S b U h) : SS S (.If c a b pos) (T ++ U) (oIf f g h) := by
  obtain ⟨t, c1, c2⟩ := hc
  obtain ⟨u, a1, a2⟩ := ha
  obtain ⟨v, b1, b2⟩ := hb
  refine ⟨tIfS t u v, fun X ok => ps_if (c1 X ok) (a1 X ok) (b1 X ok), fun F0 H0 F H Γ σ D o R hg k => ?_⟩
  unfold oIf at hg
  split at hg
  · next q => exact c2 Γ σ H0 F H _ true R.en q fun F1 H1 u1 => iteT (a2 F0 H0 F1 H1 Γ σ D o (R.mono u1) hg ((k.step (T := []) (R.en.kp u1.h)).wide fun j h => List.mem_append_left _ h))
  · next q => exact c2 Γ σ H0 F H _ false R.en q fun F1 H1 u1 => iteF (b2 F0 H0 F1 H1 Γ σ D o (R.mono u1) hg ((k.step (T := []) (R.en.kp u1.h)).wide fun j h => List.mem_append_right _ h))
  · cases hg
def forD (g : PyData → En → Option En) (b : En → Option Out) : List PyData → En → Option Out
  | [], Γ => some (.nx Γ)
  | d :: ds, Γ => (g d Γ).bind fun Γ1 => match b Γ1 with
    | some (.nx Γ2) => forD g b ds Γ2
    | some (.ct Γ2) => forD g b ds Γ2
    | some (.bk Γ2) => some (.nx Γ2)
    | some (.rt s) => some (.rt s)
    | none => none
def oFor (fi : En → Option (List PyData)) (g : PyData → En → Option En) (b : En → Option Out) : En → Option Out := fun Γ => (fi Γ).bind fun ds => forD g b ds Γ
theorem StR.rebase {K : PySem.W.Frag} {F0 H0 F1 H1 F H : Hp} {Γ : En} {σ : St} (u : Sub F0 H0 F1 H1) (R : StR K F1 H0 F H Γ σ) : StR K F0 H0 F H Γ σ :=
  ⟨R.en, u.f.trans R.su.f, R.su.h, R.su.fh, fun a o h1 h2 => R.su.o a o h1 (u.o a o h1 h2)⟩
theorem StR.base {K : PySem.W.Frag} {F0 H0 F H : Hp} {Γ : En} {σ : St} (R : StR K F0 H0 F H Γ σ) : StR K F H0 F H Γ σ :=
  ⟨R.en, .refl _, R.su.h, R.su.fh, fun a o h1 h2 => h2⟩
theorem Sub.rebase {F0 H0 F1 H1 F H : Hp} (u : Sub F0 H0 F1 H1) (v : Sub F1 H0 F H) : Sub F0 H0 F H := ⟨u.f.trans v.f, v.h, v.fh, fun a o h1 h2 => v.o a o h1 (u.o a o h1 h2)⟩
theorem EndR.rebase {K : PySem.W.Frag} {F0 H0 F1 H1 Hs : Hp} {T : List Nat} {Γ0 : En} {σ0 : St} {D : Ends} {o : Out} (u : Sub F0 H0 F1 H1) (k : EndR K F0 H0 T Γ0 σ0 Hs D o) : EndR K F1 H0 T Γ0 σ0 Hs D o := by
  cases o with
  | nx Γ => exact fun σ F H R z => k σ F H (R.rebase u) z
  | bk Γ => exact fun σ F H R z => k σ F H (R.rebase u) z
  | ct Γ => exact fun σ F H R z => k σ F H (R.rebase u) z
  | rt s => exact fun v F H R l => k v F H (u.rebase R) l
theorem Agr.kp {K : PySem.W.Frag} {H0 F H H' : Hp} {Γ : En} {σ : St} {js : List Nat} (E : EnR K H0 F H Γ σ) (sm : Same H H') {σ' : St} {Γ' : En} (ag : Agr js σ σ') (hΓ : ∀ j, j ∉ js → Γ'[j]? = Γ[j]?) : Kp js Γ σ H Γ' σ' H' := fun j hj => by
  obtain ⟨_, _, q⟩ := E.kp sm j (by simp)
  exact ⟨hΓ j hj, ag.2 j hj, q⟩
theorem for_sem {js T : List Nat} {t : TG} {tb : TS} {g b} (hg : ∀ H0 F H Γ σ v d Γ' Q, EnR S.K H0 F H Γ σ → Dp S.K F v d → g d Γ = some Γ' → (∀ σ', Agr js σ σ' → EnR S.K H0 F H Γ' σ' → Q σ' H) → t v σ H Q) (hgk : ∀ d Γ Γ', g d Γ = some Γ' → ∀ j, j ∉ js → Γ'[j]? = Γ[j]?)
    (hb : ∀ F0 H0 F H Γ σ D o, StR S.K F0 H0 F H Γ σ → b Γ = some o → EndR S.K F0 H0 T Γ σ H D o → tb D σ H)
    {F0 H0 F1 H1 : Hp} {Γ : En} {σ : St} {D : Ends} {o : Out} {J : It} {ds : List PyData} (R1 : StR S.K F0 H0 F1 H1 Γ σ) (k : EndR S.K F0 H0 (js ++ T) Γ σ H1 D o) (hr : forD g b ds Γ = some o)
    (it : ∀ (i : Nat) F2 H2 Γ2 σ2, StR S.K F1 H0 F2 H2 Γ2 σ2 → Kp (js ++ T) Γ σ H1 Γ2 σ2 H2 → (i < ds.length → J.go i H2 ∧ ∀ x H3, J.yld i H2 x H3 → ∃ F3 d, ds[i]? = some d ∧ Sub F2 H2 F3 H3 ∧ Dp S.K F3 x d) ∧ (ds.length ≤ i → J.stop i H2)) :
    ∃ W : Nat → Nat → St → Hp → Prop, (∃ m, W 0 m σ H1) ∧ ∀ i m σ H, W i m σ H → (J.stop i H ∧ D.nx σ H) ∨ (J.go i H ∧ ∃ N : St → Hp → Prop, (∀ σ' H', N σ' H' → ∃ m', m' < m ∧ W (i + 1) m' σ' H') ∧ ∀ x H', J.yld i H x H' → t x σ H' fun σ2 H2 => tb { D with nx := N, ct := N, bk := D.nx } σ2 H2) := by
  have k1 : EndR S.K F1 H0 (js ++ T) Γ σ H1 D o := k.rebase R1.su
  refine ⟨fun i m σ2 H2 => m = ds.length - i ∧ i ≤ ds.length ∧ ∃ F2 Γ2, StR S.K F1 H0 F2 H2 Γ2 σ2 ∧ Kp (js ++ T) Γ σ H1 Γ2 σ2 H2 ∧ forD g b (ds.drop i) Γ2 = some o, ⟨ds.length, by simp, Nat.zero_le _, F1, Γ, R1.base, Kp.refl.mono (fun j h => by cases h), by simpa using hr⟩, ?_⟩
  rintro i m σ2 H2 ⟨rfl, hi', F2, Γ2, R2, kp, hr⟩
  obtain ⟨go, stop⟩ := it i F2 H2 Γ2 σ2 R2 kp
  by_cases hlt : i < ds.length
  · obtain ⟨go1, go2⟩ := go hlt
    refine .inr ⟨go1, fun σ' H' => ∃ F3 Γ3, StR S.K F1 H0 F3 H' Γ3 σ' ∧ Kp (js ++ T) Γ σ H1 Γ3 σ' H' ∧ forD g b (ds.drop (i + 1)) Γ3 = some o, fun σ' H' z => ⟨ds.length - (i + 1), by omega, rfl, hlt, z⟩, fun x H3 yl => ?_⟩
    obtain ⟨F3, d, hd, u3, hx⟩ := go2 x H3 yl
    have hdr : ds.drop i = d :: ds.drop (i + 1) := by
      obtain ⟨h1, h2⟩ := List.getElem?_eq_some_iff.mp hd
      rw [List.drop_eq_getElem_cons h1, h2]
    rw [hdr] at hr
    unfold forD at hr
    cases r1 : g d Γ2 with
    | none => rw [r1] at hr; cases hr
    | some Γ3 =>
      rw [r1] at hr
      simp only [Option.bind_some] at hr
      have R3 := R2.mono u3
      refine hg H0 F3 H3 Γ2 σ2 x d Γ3 _ R3.en hx r1 fun σ3 ag E3 => ?_
      have R4 : StR S.K F1 H0 F3 H3 Γ3 σ3 := ⟨E3, R3.su⟩
      have kp3 : Kp (js ++ T ++ js) Γ σ H1 Γ3 σ3 H3 := kp.trans (Agr.kp R2.en u3.h ag (hgk d Γ2 Γ3 r1))
      have fin : ∀ {Γ4 : En} {σ' : St} {H' : Hp}, Kp T Γ3 σ3 H3 Γ4 σ' H' → Kp (js ++ T) Γ σ H1 Γ4 σ' H' := fun z => (kp3.trans z).mono fun j h => by
        simp only [List.mem_append] at h ⊢
        rcases h with ((h | h) | h) | h
        · exact .inl h
        · exact .inr h
        · exact .inl h
        · exact .inr h
      cases r2 : b Γ3 with
      | none => rw [r2] at hr; cases hr
      | some o1 =>
        rw [r2] at hr
        refine hb F1 H0 F3 H3 Γ3 σ3 _ o1 R4 r2 ?_
        cases o1 with
        | nx Γ4 => exact fun σ' F' H' R' z => ⟨F', Γ4, R', fin z, hr⟩
        | ct Γ4 => exact fun σ' F' H' R' z => ⟨F', Γ4, R', fin z, hr⟩
        | bk Γ4 => cases hr; exact fun σ' F' H' R' z => k1 σ' F' H' R' (fin z)
        | rt s => cases hr; exact fun v F' H' u l => k1 v F' H' u l
  · have e : i = ds.length := by omega
    subst e
    rw [List.drop_length] at hr
    cases hr
    exact .inl ⟨stop (Nat.le_refl _), k1 σ2 F2 H2 R2 kp⟩
def GKp (js : List Nat) (g : PyData → En → Option En) : Prop := ∀ d Γ Γ', g d Γ = some Γ' → ∀ j, j ∉ js → Γ'[j]? = Γ[j]?
theorem gk_name {i : Nat} : GKp [i] (gNm i) := fun d Γ Γ' h j hj => by
  cases h
  exact List.getElem?_set_ne fun e => hj (by rw [e]; exact List.mem_cons_self)
def GsKp (js : List Nat) (g : List PyData → En → Option En) : Prop := ∀ ds Γ Γ', g ds Γ = some Γ' → ∀ j, j ∉ js → Γ'[j]? = Γ[j]?
theorem gk_nil : GsKp [] gsNil := fun ds Γ Γ' h j hj => by
  cases ds with
  | nil => cases h; rfl
  | cons _ _ => cases h
theorem gk_cons {js ks : List Nat} {g h} (a : GKp js g) (b : GsKp ks h) : GsKp (js ++ ks) (gsCons g h) := fun ds Γ Γ' e j hj => by
  rw [List.mem_append, not_or] at hj
  cases ds with
  | nil => cases e
  | cons d r =>
    unfold gsCons at e
    simp only at e
    cases q : g d Γ with
    | none => rw [q] at e; cases e
    | some Γ1 => rw [q] at e; exact (b r Γ1 Γ' e j hj.2).trans (a d Γ Γ1 q j hj.1)
theorem gk_tup {js : List Nat} {n : Nat} {h} (a : GsKp js h) : GKp js (gTpl n h) := fun d Γ Γ' e j hj => by
  unfold gTpl at e
  split at e
  · split at e
    · exact a _ Γ Γ' e j hj
    · cases e
  · cases e
theorem ss_for {tg iter : Expr} {body : List Stmt} {pos : Pos} {js T : List Nat} {fi g b} (hi : SIV S tg iter fi) (hg : SG S tg js g) (hk : GKp js g) (hb : SSs S body T b) (hs : ∀ (X : Cx) x, foldedSetIterable iter X.env x = pure x := by intro _ _; rfl) : SS S (.For tg iter body [] pos) (js ++ T) (oFor fi g b) := by
  obtain ⟨wi, i1, i2⟩ := hi
  obtain ⟨t, g1, g2⟩ := hg
  obtain ⟨tb, b1, b2⟩ := hb
  refine ⟨tFor wi t tb, fun X ok => ps_for ok.pass ok.calm (i1 X ok) (g1 X ok) (b1 X ok) (hs X), fun F0 H0 F H Γ σ D o R hg k => ?_⟩
  unfold oFor at hg
  cases q : fi Γ with
  | none => rw [q] at hg; cases hg
  | some ds =>
    rw [q] at hg
    refine i2 Γ σ H0 F H _ ds R.en q fun J F1 H1 u1 it => ?_
    exact for_sem g2 hk b2 (R.mono u1) (k.step (T := []) (R.en.kp u1.h)) hg fun i F2 H2 Γ2 σ2 R2 kp => it i F2 H2 R2.su.f R2.en.fh (R2.su.f.trans R2.en.fh)
def iOwn (j : Nat) : En → Option (List PyData) := fun Γ => match Γ[j]? with
  | some (some (.ow xs)) => some xs
  | _ => none
def iOwnE (j : Nat) : En → Option (List PyData) := fun Γ => match Γ[j]? with
  | some (some (.ow xs)) => some (enumD xs)
  | _ => none
def whileD (c : En → Option Bool) (b : En → Option Out) : Nat → En → Option Out
  | 0, _ => none
  | n + 1, Γ => match c Γ with
    | some true => (match b Γ with
      | some (.nx Γ2) => whileD c b n Γ2
      | some (.ct Γ2) => whileD c b n Γ2
      | some (.bk Γ2) => some (.nx Γ2)
      | some (.rt s) => some (.rt s)
      | none => none)
    | some false => some (.nx Γ)
    | none => none
def oWhile (n : Nat) (c : En → Option Bool) (b : En → Option Out) : En → Option Out := whileD c b n
def frzE (i : Nat) (Γ : En) : En := match Γ[i]? with
  | some (some (.ow xs)) => setE i (.fz (.list xs)) Γ
  | _ => Γ
theorem StR.freeze {K : PySem.W.Frag} {F0 H0 F H : Hp} {Γ : En} {σ : St} (i : Nat) (R : StR K F0 H0 F H Γ σ) : ∃ F', StR K F0 H0 F' H (frzE i Γ) σ := by
  unfold frzE
  split
  · next xs q =>
    obtain ⟨v, h1, a, vs, rfl, hF, hH, hda⟩ := R.en.sl i _ q
    have sF : Same F (upd F a (.lst vs)) := same_new hF
    have sH : Same (upd F a (.lst vs)) H := fun b o e => by
      by_cases hb : b = a
      · subst hb; rw [upd_same] at e; cases e; exact hH
      · rw [upd_ne hb] at e; exact R.en.fh b o e
    refine ⟨upd F a (.lst vs), ⟨sH, fun j s hj => ?_, fun j ys b e1 e2 => ?_, fun j k ys zs b e1 e2 e3 e4 => ?_, by unfold setE; rw [List.length_set]; exact R.en.ln⟩, R.su.f.trans sF, R.su.h, sH, fun b o e1 e2 => ?_⟩
    · unfold setE at hj
      rw [List.getElem?_set] at hj
      split at hj
      · next e =>
        subst e
        split at hj
        · cases hj; exact ⟨_, h1, .lst (SqL.of upd_same) (dpAll_mono sF hda)⟩
        · cases hj
      · next e =>
        obtain ⟨v, e1, e2⟩ := R.en.sl j s hj
        refine ⟨v, e1, ?_⟩
        cases s with
        | fz d => exact dp_mono sF e2
        | ow zs =>
          obtain ⟨b, ws, rfl, q1, q2, q3⟩ := e2
          have ne : b ≠ a := fun z => by subst z; exact e (R.en.ds i j xs zs b q hj h1 e1)
          exact ⟨b, ws, rfl, by rw [upd_ne ne]; exact q1, q2, dpAll_mono sF q3⟩
    · unfold setE at e1
      rw [List.getElem?_set] at e1
      split at e1
      · split at e1 <;> cases e1
      · exact R.en.nw j ys b e1 e2
    · unfold setE at e1 e2
      rw [List.getElem?_set] at e1 e2
      split at e1
      · split at e1 <;> cases e1
      · split at e2
        · split at e2 <;> cases e2
        · exact R.en.ds j k ys zs b e1 e2 e3 e4
    · rw [upd_ne (ne_of_none e1 (R.en.nw i xs a q h1))]; exact R.su.o b o e1 e2
  · exact ⟨F, R⟩
def oFrz (i : Nat) (g : En → Option Out) : En → Option Out := fun Γ => g (frzE i Γ)
def startE (n : Nat) (ds : List PyData) : En := (ds.map fun d => some (Sl.fz d)) ++ List.replicate (n - ds.length) none
def mirror (n : Nat) (g : En → Option Out) : List PyData → Option Sl := fun ds => match g (startE n ds) with
  | some (.rt s) => some s
  | some (.nx _) => some (.fz .none)
  | _ => none
theorem start_ok {K : PySem.W.Frag} {F H : Hp} {N : List Str} {vs : List V} {ds : List PyData} (fh : Same F H) (hd : DpAll K F vs ds) : EnR K H F H (startE N.length ds) (start N vs) := by
  have hl := hd.length
  have get : ∀ (i : Nat) (s : Sl), (startE N.length ds)[i]? = some (some s) → ∃ d, s = .fz d ∧ ds[i]? = some d := fun i s h => by
    unfold startE at h
    by_cases hi : i < ds.length
    · rw [List.getElem?_append_left (by rw [List.length_map]; exact hi), List.getElem?_map] at h
      cases e : ds[i]? with
      | none => rw [e] at h; cases h
      | some d => rw [e] at h; cases h; exact ⟨d, rfl, rfl⟩
    · rw [List.getElem?_append_right (by rw [List.length_map]; omega), List.getElem?_replicate] at h
      split at h <;> cases h
  refine ⟨fh, fun i s h => ?_, fun i xs a h => ?_, fun i j xs ys a h => ?_, ?_⟩
  · obtain ⟨d, rfl, e⟩ := get i s h
    obtain ⟨v, e1, e2⟩ := hd.get' e
    refine ⟨v, ?_, e2⟩
    unfold L2.start
    rw [List.getElem?_append_left (by rw [List.length_map]; exact (List.getElem?_eq_some_iff.mp e1).1), List.getElem?_map, e1]; rfl
  · obtain ⟨d, e, _⟩ := get i _ h; cases e
  · obtain ⟨d, e, _⟩ := get i _ h; cases e
  · unfold startE L2.start
    simp only [List.length_append, List.length_map, List.length_replicate, hl]
abbrev sxOf (P : Program) (w : World) (K : PySem.W.Frag) (mg : Str → Option Value) (base : Heap) (N : List Str) (sc : Scope) (k : Nat) : Sx := ⟨P, w, K, mg, base, N, sc, k, fun _ => true⟩
theorem fn_ok {P : Program} {w : World} {K : PySem.W.Frag} {mg : Str → Option Value} {base : Heap} {x qual : Str} {st : Stmt} {f : Addr} {fd : FuncData} {N ps : List Str} {k : Nat} {g} (F : Fun K x qual st f fd) (sc : FnScope N ps (defScope st))
    {T : List Nat} (hb : SSs (sxOf P w K mg base N (defScope st) k) (defBody st) T g) : FnOk P w K mg base CX0 (k + 1) f fd ps (spD K ps.length (mirror N.length g)) := by
  obtain ⟨t, b1, b2⟩ := hb
  refine F.ok sc (fun vs H Q E h => ?_) (fun cdv A outer s H vs Q E hr h => ?_)
  · obtain ⟨F, ds, s, _, hl, hd, _⟩ := h
    rw [hd.length]; exact hl
  · obtain ⟨F, ds, s1, fh, hl, hd, hm, kQ⟩ := h
    refine ⟨t, b1 _ ⟨rfl, rfl, rfl, rfl, rfl, rfl, rfl, hr, rfl, sc.nd, rfl, PassesOwn.never⟩, ?_⟩
    unfold mirror at hm
    cases q : g (startE N.length ds) with
    | none => rw [q] at hm; cases hm
    | some o =>
      rw [q] at hm
      refine b2 F H F H _ _ _ o ⟨start_ok fh hd, .refl fh⟩ q ?_
      cases o with
      | rt s => cases hm; exact fun v F' H' u l => kQ v F' H' u l
      | nx Γ => cases hm; exact fun σ F' H' R _ => kQ .non F' H' R.su ⟨.non, fun _ _ z => by cases z⟩
      | bk Γ => cases hm
      | ct Γ => cases hm
end
end
end Bd
namespace Bd
open PySem L2
noncomputable section
abbrev pSub : PyData → PyData → Option Sl := pI (fun i j => .int (i - j)) fun _ _ => true
abbrev pMul : PyData → PyData → Option Sl := pI (fun i j => .int (i * j)) mulB
abbrev pDiv : PyData → PyData → Option Sl := pI (fun i j => .int (i / j)) divB
abbrev pMod : PyData → PyData → Option Sl := pI (fun i j => .int (i % j)) modB
abbrev pPow : PyData → PyData → Option Sl := pI (fun i j => .int (i ^ j.toNat)) powB
abbrev pLt : PyData → PyData → Option Sl := pI (fun i j => .bool (decide (i < j))) fun _ _ => true
abbrev pLe : PyData → PyData → Option Sl := pI (fun i j => .bool (decide (i ≤ j))) fun _ _ => true
abbrev pGt : PyData → PyData → Option Sl := pI (fun i j => .bool (decide (j < i))) fun _ _ => true
abbrev pGe : PyData → PyData → Option Sl := pI (fun i j => .bool (decide (j ≤ i))) fun _ _ => true
section
variable {f h : En → Option PyData} {fs gs : En → Option Sl} {c d : En → Option Bool} {a : En → Option (List PyData)} {g k : En → Option Out} {Γ Δ : En} {i j : Nat}
@[simp] theorem e_setE0 {s : Sl} {x : Option Sl} {l : En} : setE 0 s (x :: l) = some s :: l := id rfl
@[simp] theorem e_setES {s : Sl} {x : Option Sl} {l : En} {n : Nat} : setE (n + 1) s (x :: l) = x :: setE n s l := id rfl
@[simp] theorem e_dOf : dOf fs Γ = (fs Γ).map Sl.d := id rfl
@[simp] theorem e_fzOf : fzOf f Γ = (f Γ).map Sl.fz := id rfl
@[simp] theorem e_fz (d : PyData) : (Sl.fz d).d = d := id rfl
@[simp] theorem e_ow (xs : List PyData) : (Sl.ow xs).d = .list xs := id rfl
@[simp] theorem e_gSl0 {s : Sl} {l : En} : gSl 0 (some s :: l) = some s.d := id rfl
@[simp] theorem e_gSlS {x : Option Sl} {l : En} {n : Nat} : gSl (n + 1) (x :: l) = gSl n l := id rfl
@[simp] theorem e_gFz0 {d : PyData} {l : En} : gFz 0 (some (.fz d) :: l) = some d := id rfl
@[simp] theorem e_gFzS {x : Option Sl} {l : En} {n : Nat} : gFz (n + 1) (x :: l) = gFz n l := id rfl
@[simp] theorem e_kC (d : PyData) : kC d Γ = some d := id rfl
@[simp] theorem e_aNil : aNil Γ = some [] := id rfl
@[simp] theorem e_aCons : aCons f a Γ = (f Γ).bind fun d => (a Γ).map (d :: ·) := id rfl
@[simp] theorem e_dLst : dLst a Γ = (a Γ).bind fun ds => if ds.length ≤ cap then some (.ow ds) else none := id rfl
@[simp] theorem e_dTup : dTup a Γ = (a Γ).bind fun ds => if ds.length ≤ cap then some (.fz (.tuple ds)) else none := id rfl
@[simp] theorem e_b2 {p} : b2 p f h Γ = (f Γ).bind fun x => (h Γ).bind fun y => p x y := id rfl
@[simp] theorem e_pI {u : Int → Int → PyData} {C : Int → Int → Bool} {i j : Int} : pI u C (.int i) (.int j) = if C i j = true then some (.fz (u i j)) else none := id rfl
@[simp] theorem e_pAddI {i j : Int} : pAdd (.int i) (.int j) = some (.fz (.int (i + j))) := id rfl
@[simp] theorem e_pAddL {x y : List PyData} : pAdd (.list x) (.list y) = if x.length + y.length ≤ cap then some (.ow (x ++ y)) else none := id rfl
@[simp] theorem e_callD {p} : callD p a Γ = (a Γ).bind p := id rfl
@[simp] theorem e_bOf : bOf fs Γ = (match fs Γ with | some (.fz (.bool b)) => some b | _ => none) := id rfl
@[simp] theorem e_bNot : bNot c Γ = (c Γ).map (!·) := id rfl
@[simp] theorem e_bTru : bTru f Γ = (f Γ).bind truD := id rfl
@[simp] theorem e_truB (b : Bool) : truD (.bool b) = some b := id rfl
@[simp] theorem e_bAnd : bAnd c d Γ = (match c Γ with | some true => d Γ | some false => some false | none => none) := id rfl
@[simp] theorem e_bOr : bOr c d Γ = (match c Γ with | some true => some true | some false => d Γ | none => none) := id rfl
@[simp] theorem e_vAnd : vAnd fs gs Γ = (match fs Γ with | some (.fz (.bool true)) => gs Γ | some (.fz (.bool false)) => some (.fz (.bool false)) | _ => none) := id rfl
@[simp] theorem e_bYes : bYes Γ = some true := id rfl
@[simp] theorem e_pLenL {xs : List PyData} : pLen [.list xs] = some (.fz (.int xs.length)) := id rfl
@[simp] theorem e_pLenT {xs : List PyData} : pLen [.tuple xs] = some (.fz (.int xs.length)) := id rfl
@[simp] theorem e_pAbs {i : Int} : pAbs [.int i] = some (.fz (.int (if i < 0 then -i else i))) := id rfl
@[simp] theorem e_pListOf {xs : List PyData} : pListOf [.list xs] = some (.ow xs) := id rfl
@[simp] theorem e_pIxL {xs : List PyData} {i : Int} : pIx (.list xs) (.int i) = (atI xs i).map Sl.fz := id rfl
@[simp] theorem e_pIxT {xs : List PyData} {i : Int} : pIx (.tuple xs) (.int i) = (atI xs i).map Sl.fz := id rfl
@[simp] theorem e_vIsi {T : String} : vIsi T f Γ = (f Γ).map fun d => .fz (.bool (isTy T d)) := id rfl
@[simp] theorem e_iLst : iLst f Γ = (match f Γ with | some (.list xs) => some xs | _ => none) := id rfl
@[simp] theorem e_iEnm : iEnm f Γ = (match f Γ with | some (.list xs) => some (enumD xs) | _ => none) := id rfl
@[simp] theorem e_gNm {d : PyData} : gNm i d Γ = some (setE i (.fz d) Γ) := id rfl
@[simp] theorem e_oNil : oNil Γ = some (.nx Γ) := id rfl
@[simp] theorem e_oSeq : oSeq g k Γ = (match g Γ with | some (.nx Γ') => k Γ' | r => r) := id rfl
@[simp] theorem e_oSet : oSet i fs Γ = (fs Γ).map fun s => .nx (setE i s Γ) := id rfl
@[simp] theorem e_oRet : oRet fs Γ = (fs Γ).map Out.rt := id rfl
@[simp] theorem e_oIf : oIf c g k Γ = (match c Γ with | some true => g Γ | some false => k Γ | none => none) := id rfl
@[simp] theorem e_oFor {fi u} : oFor fi u g Γ = (fi Γ).bind fun ds => forD u g ds Γ := id rfl
@[simp] theorem e_oFrz : oFrz i g Γ = g (frzE i Γ) := id rfl
@[simp] theorem e_vLc {fi u fe vs} : vLc fi u c fe vs Γ = (fi Γ).bind fun ds => if ds.length < cap then (lcD u c fe (wipeE Γ vs) ds).map Sl.ow else none := id rfl
@[simp] theorem e_frz0w {xs : List PyData} {l : En} : frzE 0 (some (.ow xs) :: l) = some (.fz (.list xs)) :: l := id rfl
@[simp] theorem e_frz0f {d : PyData} {l : En} : frzE 0 (some (.fz d) :: l) = some (.fz d) :: l := id rfl
@[simp] theorem e_frzS {x : Option Sl} {l : En} {n : Nat} : frzE (n + 1) (x :: l) = x :: frzE n l := by
  unfold frzE
  rw [List.getElem?_cons_succ]
  cases q : l[n]? with
  | none => rfl
  | some o =>
    cases o with
    | none => rfl
    | some s => cases s <;> rfl
@[simp] theorem e_wipeN : wipeE Γ [] = Γ := id rfl
@[simp] theorem e_wipeC {v : Nat} {vs : List Nat} : wipeE Γ (v :: vs) = (wipeE Γ vs).set v none := id rfl
@[simp] theorem e_tyL {xs : List PyData} : tyName (.list xs) = "list" := id rfl
@[simp] theorem e_tyT {xs : List PyData} : tyName (.tuple xs) = "tuple" := id rfl
@[simp] theorem e_tyI {n : Int} : tyName (.int n) = "int" := id rfl
@[simp] theorem e_tyB {b : Bool} : tyName (.bool b) = "bool" := id rfl
end
@[simp] theorem e_oRetV {i : Nat} {Γ : En} : oRetV i Γ = (match Γ[i]? with | some (some s) => some (.rt s) | _ => none) := id rfl
@[simp] theorem e_oApp {i : Nat} {Γ : En} {f} : oApp i f Γ = (match Γ[i]?, f Γ with | some (some (.ow xs)), some d => if xs.length < cap then some (.nx (setE i (.ow (xs ++ [d])) Γ)) else none | _, _ => none) := id rfl
@[simp] theorem e_oExt {i : Nat} {Γ : En} {f} : oExt i f Γ = (match Γ[i]?, f Γ with | some (some (.ow xs)), some (.list ys) => if xs.length + ys.length ≤ cap then some (.nx (setE i (.ow (xs ++ ys)) Γ)) else none | _, _ => none) := id rfl
@[simp] theorem e_iOwn {j : Nat} {Γ : En} : iOwn j Γ = (match Γ[j]? with | some (some (.ow xs)) => some xs | _ => none) := id rfl
@[simp] theorem e_iOwnE {j : Nat} {Γ : En} : iOwnE j Γ = (match Γ[j]? with | some (some (.ow xs)) => some (enumD xs) | _ => none) := id rfl
@[simp] theorem e_gTpl2 {g h : PyData → En → Option En} {a b : PyData} {Γ : En} : gTpl 2 (gsCons g (gsCons h gsNil)) (.tuple [a, b]) Γ = (g a Γ).bind fun Γ1 => (h b Γ1).bind fun Γ2 => some Γ2 := by
  unfold gTpl gsCons gsNil
  simp
abbrev nums (ns : List Int) : List PyData := ns.map PyData.int
abbrev rowD (r : List Int) : PyData := .list (nums r)
abbrev rows (o : List (List Int)) : List PyData := o.map rowD
theorem atI_of {α : Type} {xs : List α} {z : Int} {v : α} (h0 : 0 ≤ z) (h : xs[z.toNat]? = some v) : atI xs z = some v := by
  unfold atI ixN
  have hl := (List.getElem?_eq_some_iff.mp h).1
  rw [if_pos h0, if_pos (by omega)]
  exact h
theorem atI_ints {ns : List Int} {z v : Int} (h0 : 0 ≤ z) (h : ns[z.toNat]? = some v) : atI (nums ns) z = some (.int v) := atI_of h0 (by rw [List.getElem?_map, h]; rfl)
theorem forD_inv {α : Type} {g : PyData → En → Option En} {body : En → Option Out} (emb : α → PyData) (Q : List α → En → Prop) (h : ∀ x xs Γ, Q (x :: xs) Γ → ∃ Γ', (g (emb x) Γ).bind body = some (.nx Γ') ∧ Q xs Γ') :
    ∀ (xs : List α) (Γ : En), Q xs Γ → ∃ Γ', forD g body (xs.map emb) Γ = some (.nx Γ') ∧ Q [] Γ'
  | [], Γ, h0 => ⟨Γ, rfl, h0⟩
  | x :: xs, Γ, h0 => by
    obtain ⟨Γ1, h1, h2⟩ := h x xs Γ h0
    obtain ⟨Γ2, h3, h4⟩ := forD_inv emb Q h xs Γ1 h2
    refine ⟨Γ2, ?_, h4⟩
    rw [List.map_cons]
    unfold forD
    cases q : g (emb x) Γ with
    | none => rw [q] at h1; cases h1
    | some Γ3 =>
      rw [q, Option.bind_some] at h1
      rw [Option.bind_some, h1]
      exact h3
theorem rng_map (n : Nat) : rngD 0 n = (List.range n).map fun (k : Nat) => PyData.int (k : Int) := by unfold rngD; simp
end
end Bd
namespace Com
open PySem L2 Bd
noncomputable section
def g_law_cell : En → Option Out :=
  (oSeq (oIf (bOf (b2 pLt (gSl 1) (dOf (callD pLen (aCons (gSl 0) aNil)))))
  (oSeq (oRet (b2 pIx (gSl 0) (gSl 1)))
  oNil)
  oNil)
  (oSeq (oRet (fzOf (kC (.int 0))))
  oNil))
def m_law_cell : List PyData → Option Sl := mirror 2 g_law_cell
def g_law_digits_b1 : En → Option Out :=
  (oSeq (oApp 3 (dOf (b2 pMod (gSl 0) (gSl 1))))
  (oSeq (oSet 0 (fzOf (dOf (b2 pDiv (gSl 0) (gSl 1)))))
  oNil))
def g_law_digits : En → Option Out :=
  (oSeq (oSet 3 (dLst aNil))
  (oSeq (oFor (iR1 (gSl 2)) (gNm 4)
  g_law_digits_b1)
  (oSeq (oRetV 3)
  oNil)))
def m_law_digits : List PyData → Option Sl := mirror 5 g_law_digits
def g_law_mixed_b1 : En → Option Out :=
  (oSeq (oSet 5 (fzOf (dOf (b2 pMod (dOf (b2 pMul (dOf (b2 pAdd (dOf (b2 pAdd (dOf (b2 pAdd (dOf (b2 pMod (gSl 0) (kC (.int 998244353)))) (dOf (b2 pMul (dOf (b2 pMul (kC (.int 31)) (gSl 4))) (gSl 4))))) (dOf (b2 pMul (kC (.int 1013)) (gSl 4))))) (kC (.int 1)))) (kC (.int 48271)))) (kC (.int 2147483647))))))
  (oSeq (oSet 6 (fzOf (dOf (b2 pMod (dOf (b2 pMul (dOf (b2 pAdd (dOf (b2 pAdd (dOf (b2 pDiv (gSl 5) (kC (.int 7)))) (dOf (b2 pMul (dOf (b2 pMod (dOf (b2 pDiv (gSl 0) (kC (.int 1009)))) (kC (.int 10007)))) (kC (.int 17)))))) (gSl 4))) (kC (.int 69621)))) (kC (.int 2147483629))))))
  (oSeq (oApp 3 (dOf (b2 pMod (dOf (b2 pDiv (gSl 6) (kC (.int 11)))) (gSl 1))))
  oNil)))
def g_law_mixed : En → Option Out :=
  (oSeq (oSet 3 (dLst aNil))
  (oSeq (oFor (iR1 (gSl 2)) (gNm 4)
  g_law_mixed_b1)
  (oSeq (oRetV 3)
  oNil)))
def m_law_mixed : List PyData → Option Sl := mirror 7 g_law_mixed
def g_law_row : En → Option Out :=
  (oSeq (oIf (bOf (b2 pGe (dOf (callD pAbs (aCons (gSl 0) aNil))) (dOf (b2 pPow (kC (.int 10)) (kC (.int 18))))))
  (oSeq (oRet (callD m_law_digits (aCons (gFz 0) (aCons (gFz 1) (aCons (gFz 2) aNil)))))
  oNil)
  oNil)
  (oSeq (oRet (callD m_law_mixed (aCons (gFz 0) (aCons (gFz 1) (aCons (gFz 2) aNil)))))
  oNil))
def m_law_row : List PyData → Option Sl := mirror 3 g_law_row
theorem iR1_nat {f : En → Option PyData} {Γ : En} {n : Nat} (h : f Γ = some (.int (n : Int))) (hn : n < 2 ^ 60) : iR1 f Γ = some ((List.range n).map fun (k : Nat) => PyData.int (k : Int)) := by
  unfold iR1
  rw [h]
  dsimp only
  rw [big_eq, if_pos (by omega), Int.toNat_natCast, rng_map]
theorem cell_spec (s : List Int) (k : Nat) : ∃ c, m_law_cell [.list (nums s), .int (k : Int)] = some (.fz (.int c)) := by
  unfold m_law_cell mirror g_law_cell startE
  by_cases h : (k : Int) < s.length
  · obtain ⟨c, hc⟩ : ∃ c, s[k]? = some c := ⟨s[k], by simp⟩
    have ha : atI (nums s) (k : Int) = some (.int c) := atI_ints (by omega) (by simpa using hc)
    refine ⟨c, ?_⟩
    simp [h, ha]
  · refine ⟨0, ?_⟩
    simp [h]
def Within (b : Int) (ds : List Int) : Prop := ∀ d ∈ ds, 0 ≤ d ∧ d < b
theorem Within.snoc {b : Int} {ds : List Int} {d : Int} (h : Within b ds) (h0 : 0 ≤ d) (h1 : d < b) : Within b (ds ++ [d]) := fun x hx => by
  rcases List.mem_append.mp hx with q | q
  · exact h x q
  · rw [List.mem_singleton] at q; subst q; exact ⟨h0, h1⟩
end
end Com
namespace Com
open PySem L2 Bd
noncomputable section
@[simp] theorem e_pEqI {a b : Int} : pEq (.int a) (.int b) = some (.fz (.bool (a == b))) := id rfl
def IsOrd (o : List (List Int)) : Prop := ∀ (j : Nat) (r : List Int), o[j]? = some r → r.Pairwise (· < ·) ∧ (∀ x ∈ r, 0 ≤ x ∧ x < (j : Int)) ∧ ∀ x ∈ r, ∀ r', o[x.toNat]? = some r' → ∀ y ∈ r', y ∈ r
theorem IsOrd.snoc {o : List (List Int)} {r : List Int} (h : IsOrd o) (h1 : r.Pairwise (· < ·)) (h2 : ∀ x ∈ r, 0 ≤ x ∧ x < (o.length : Int)) (h3 : ∀ x ∈ r, ∀ r', o[x.toNat]? = some r' → ∀ y ∈ r', y ∈ r) : IsOrd (o ++ [r]) := by
  intro j q hj
  have old : ∀ (x : Int), 0 ≤ x → x < (o.length : Int) → (o ++ [r])[x.toNat]? = o[x.toNat]? := fun x a b => List.getElem?_append_left (by omega)
  by_cases hl : j < o.length
  · rw [List.getElem?_append_left hl] at hj
    obtain ⟨a, b, c⟩ := h j q hj
    exact ⟨a, b, fun x hx r' hr => by rw [old x (b x hx).1 (by have := (b x hx).2; omega)] at hr; exact c x hx r' hr⟩
  · rw [List.getElem?_append_right (by omega)] at hj
    obtain ⟨e1, e2⟩ := List.getElem?_eq_some_iff.mp hj
    have : j - o.length = 0 := by simp at e1; omega
    have ej : j = o.length := by omega
    subst ej
    simp at e2
    subst e2
    exact ⟨h1, h2, fun x hx r' hr => by rw [old x (h2 x hx).1 (h2 x hx).2] at hr; exact h3 x hx r' hr⟩
structure Inn (o : List (List Int)) (ds : List Int) (hi : Nat) (s : Nat × List Int) (rest : List Nat) : Prop where
  low : ∀ k ∈ rest, k < hi
  at' : s.1 + rest.length ≤ ds.length
  len : s.2.length + 15 * rest.length ≤ 15 * hi
  mem : ∀ x ∈ s.2, 0 ≤ x ∧ x < (hi : Int)
  cl : ∀ x ∈ s.2, ∀ r', o[x.toNat]? = some r' → ∀ y ∈ r', y ∈ s.2
end
end Com
namespace Com
open PySem L2 Bd
noncomputable section
def Shp (n : Nat) (d : PyData) : Prop := d.canLay0 = true ∧ d.depth ≤ n
theorem shp_int (n : Nat) (i : Int) : Shp n (.int i) := ⟨by simp [PyData.canLay0], by simp [PyData.depth]⟩
theorem lay_all : ∀ (xs : List PyData), (∀ x ∈ xs, x.canLay0 = true) → PyData.canLayAll0 xs = true
  | [], _ => by simp [PyData.canLayAll0]
  | x :: xs, h => by
    simp only [PyData.canLayAll0]
    rw [h x List.mem_cons_self, lay_all xs fun y hy => h y (List.mem_cons_of_mem _ hy)]; rfl
theorem depth_all {n : Nat} : ∀ (xs : List PyData), (∀ x ∈ xs, x.depth ≤ n) → PyData.depthAll xs ≤ n
  | [], _ => by simp [PyData.depthAll]
  | x :: xs, h => by
    simp only [PyData.depthAll]
    exact Nat.max_le.mpr ⟨h x List.mem_cons_self, depth_all xs fun y hy => h y (List.mem_cons_of_mem _ hy)⟩
theorem shp_list {n : Nat} {xs : List PyData} (h : ∀ x ∈ xs, Shp n x) : Shp (n + 1) (.list xs) :=
  ⟨by simp only [PyData.canLay0]; exact lay_all xs fun x hx => (h x hx).1, by simp only [PyData.depth]; exact Nat.succ_le_succ (depth_all xs fun x hx => (h x hx).2)⟩
theorem shp_nums (n : Nat) (ns : List Int) : Shp (n + 1) (.list (nums ns)) := shp_list fun x hx => by
  obtain ⟨i, _, rfl⟩ := List.mem_map.mp hx
  exact shp_int n i
theorem shp_rows (n : Nat) (o : List (List Int)) : Shp (n + 2) (.list (rows o)) := shp_list fun x hx => by
  obtain ⟨i, _, rfl⟩ := List.mem_map.mp hx
  exact shp_nums n i
theorem Shp.ok {n : Nat} {d : PyData} (h : Shp n d) (hn : n ≤ 64) : SeqAt.shaped d = true := by
  unfold SeqAt.shaped
  rw [h.1, decide_eq_true (Nat.le_trans h.2 hn)]; rfl
theorem pEq_self {n : Nat} {d : PyData} (h : Shp n d) (hn : n ≤ 64) : pEq d d = some (.fz (.bool true)) := by
  unfold pEq
  rw [h.ok hn, Bool.and_self, if_pos rfl, SeqAt.eqv_refl d h.1]
theorem pNe_self {n : Nat} {d : PyData} (h : Shp n d) (hn : n ≤ 64) : pNe d d = some (.fz (.bool false)) := by
  unfold pNe
  rw [h.ok hn, Bool.and_self, if_pos rfl, SeqAt.eqv_refl d h.1]; rfl
theorem pEq_rows (o : List (List Int)) : pEq (.list (rows o)) (.list (rows o)) = some (.fz (.bool true)) := pEq_self (shp_rows 0 o) (by decide)
theorem pNe_rows (o : List (List Int)) : pNe (.list (rows o)) (.list (rows o)) = some (.fz (.bool false)) := pNe_self (shp_rows 0 o) (by decide)
theorem pNe_nums (o : List Int) : pNe (.list (nums o)) (.list (nums o)) = some (.fz (.bool false)) := pNe_self (shp_nums 0 o) (by decide)
@[simp] theorem e_pNeI {a b : Int} : pNe (.int a) (.int b) = some (.fz (.bool (!(a == b)))) := id rfl
@[simp] theorem e_pMax {ns : List Int} : pMax [.list (nums ns)] = (maxOpt ns).map fun m => .fz (.int m) := by
  unfold pMax
  dsimp only
  rw [toInts_map]; rfl
@[simp] theorem e_isiL {xs : List PyData} : isTy "list" (.list xs) = true := by unfold isTy; rfl
@[simp] theorem e_isiI {n : Int} : isTy "int" (.int n) = true := by unfold isTy; rfl
@[simp] theorem e_isiB {n : Int} : isTy "bool" (.int n) = false := by unfold isTy; rfl
end
end Com
namespace Bd
open PySem PyProof.Rows
noncomputable section
def kn (p : Keyed) : Int := numOf p.1
def IsK (p : Keyed) : Prop := ∃ n t, p.1 = Value.int n t
structure SB (a₀ : Array Keyed) (st : SortSt) : Prop where
  perm : (arrOf st).Perm a₀
  kind : kindOf st = oneType'
  failed : failedOf st = none
theorem K_at {xs : Array Keyed} {i : Nat} {p : Keyed} (h : xs[i]? = some p) : K xs i = kn p := by unfold K; rw [h]; rfl
section
variable {prog : Program} {w : World} {A : Around} {E : Value → Shared → Prop} {s : Shared}
theorem wpS_ltP {st : SortSt} {x y : Keyed} {Q : Option Bool → SortSt → Prop} (hk : kindOf st = oneType') (hx : IsK x) (hy : IsK y) (h : Q (some (decide (kn x < kn y))) st) : wpS (model prog w) A E s (lt' x y) Q st := by
  obtain ⟨a, t, ex⟩ := hx
  obtain ⟨b, u, ey⟩ := hy
  rw [lt'_eq]
  refine wpS_bind (wpS_get ?_)
  rw [hk, keyLt'_oneType, ex, ey]
  refine wpS_bind (wpS_lift (wpAny_attempt (oneLt_int ⟨rfl, ?_⟩)))
  have e1 : kn x = a := by unfold kn; rw [ex]; rfl
  have e2 : kn y = b := by unfold kn; rw [ey]; rfl
  rw [e1, e2] at h
  exact wpS_pure h
theorem wpS_elem {st : SortSt} {arr : Array Keyed} {i : Nat} {p : Keyed} {Q : Keyed → SortSt → Prop} (hi : arr[i]? = some p) (h : Q p st) : wpS (model prog w) A E s (elem' arr i) Q st := by
  rw [elem'_eq, hi]
  exact wpS_pure h
def gallop' : Bool → Keyed → Array Keyed → Nat → Nat → Nat → StateT SortSt Sem (Option Nat) := sortPriv% PySem.Builtin.gallop
def bey (left : Bool) (key : Keyed) (arr : Array Keyed) (base : Nat) (i : Nat) : Bool := if left = true then decide (K arr (base + i) < kn key) else !decide (kn key < K arr (base + i))
theorem wpS_gallop {st : SortSt} {left : Bool} {key : Keyed} {arr : Array Keyed} {base n hint : Nat} {Q : Option Nat → SortSt → Prop} (hk : kindOf st = oneType') (hkey : IsK key) (harr : ∀ i, i < n → ∃ p, arr[base + i]? = some p ∧ IsK p) (hn : hint < n)
    (mono : ∀ i j, i ≤ j → j < n → bey left key arr base j = true → bey left key arr base i = true)
    (h : ∀ k, k ≤ n → (∀ i, i < k → bey left key arr base i = true) → (∀ i, k ≤ i → i < n → bey left key arr base i = false) → Q (some k) st) :
    wpS (model prog w) A E s (gallop' left key arr base n hint) Q st := by
  have B : ∀ {i : Nat} {st' : SortSt} {R : Option Bool → SortSt → Prop}, kindOf st' = oneType' → i < n → R (some (bey left key arr base i)) st' → wpS (model prog w) A E s (do
      let x ← elem' arr (base + i)
      if left = true then lt' x key
        else do
          let r ← lt' key x
          pure (Option.map (fun x => !x) r)) R st' := fun {i st' R} hk' hi hR => by
    obtain ⟨p, e, hp⟩ := harr i hi
    refine wpS_bind (wpS_elem e ?_)
    unfold bey at hR
    rw [K_at e] at hR
    by_cases hl : left = true
    · rw [if_pos hl] at hR ⊢
      exact wpS_ltP hk' hp hkey hR
    · rw [if_neg hl] at hR ⊢
      exact wpS_bind (wpS_ltP hk' hkey hp (wpS_pure hR))
  have J : ∀ lo hi : Nat, lo ≤ hi → hi ≤ n → (∀ i, i < lo → bey left key arr base i = true) → (∀ i, hi ≤ i → i < n → bey left key arr base i = false) → ∀ (P3 : Nat × Nat → Nat × Nat → Prop) (f : Nat → Option (Option Nat) × Nat × Nat → StateT SortSt Sem (ForInStep (Option (Option Nat) × Nat × Nat))) (g : Option (Option Nat) × Nat × Nat → StateT SortSt Sem (Option Nat)),
      (∀ x lo hi, f x (none, lo, hi) = (if lo ≥ hi then pure (ForInStep.done (none, lo, hi)) else do
          let r ← (do
            let x ← elem' arr (base + (lo + (hi - lo) / 2))
            if left = true then lt' x key
              else do
                let r ← lt' key x
                pure (Option.map (fun x => !x) r))
          match r with
          | some more => if more = true then pure (ForInStep.yield (none, lo + (hi - lo) / 2 + 1, hi)) else pure (ForInStep.yield (none, lo, lo + (hi - lo) / 2))
          | _ => pure (ForInStep.done (some none, lo, hi)))) → (∀ lo hi, g (none, lo, hi) = pure (some hi)) →
      wpS (model prog w) A E s (forIn [:n] ((none, lo, hi) : Option (Option Nat) × Nat × Nat) f >>= g) Q st := fun lo hi h1 h2 h3 h4 _ f g hf hg => by
    refine wpS_bind (wpS_mono (wpS_forRange (I := fun x c st' => st' = st ∧ ∃ lo hi, c = (none, lo, hi) ∧ lo ≤ hi ∧ hi ≤ n ∧ hi - lo ≤ n - x ∧ (∀ i, i < lo → bey left key arr base i = true) ∧ ∀ i, hi ≤ i → i < n → bey left key arr base i = false)
      (Q := fun c st' => st' = st ∧ ∃ k, c = (none, k, k) ∧ k ≤ n ∧ (∀ i, i < k → bey left key arr base i = true) ∧ ∀ i, k ≤ i → i < n → bey left key arr base i = false) ?step ?fin ⟨rfl, lo, hi, rfl, h1, h2, by omega, h3, h4⟩) ?post)
    case post =>
      rintro c st' ⟨rfl, k, rfl, k1, k2, k3⟩
      rw [hg]
      exact wpS_pure (h k k1 k2 k3)
    case fin =>
      rintro c st' ⟨rfl, lo, hi, rfl, a1, a2, a3, a4, a5⟩
      have : lo = hi := by omega
      subst this
      exact ⟨rfl, lo, rfl, a2, a4, a5⟩
    case step =>
      rintro x c st' _ hx ⟨rfl, lo, hi, rfl, a1, a2, a3, a4, a5⟩
      rw [hf]
      by_cases hge : lo ≥ hi
      · rw [if_pos hge]
        have : lo = hi := by omega
        subst this
        exact wpS_pure ⟨rfl, lo, rfl, a2, a4, a5⟩
      · rw [if_neg hge]
        refine wpS_bind (B hk (by omega) ?_)
        dsimp only
        cases hb : bey left key arr base (lo + (hi - lo) / 2) with
        | true =>
          rw [if_pos rfl]
          exact wpS_pure ⟨rfl, _, _, rfl, by omega, a2, by omega, fun i hi2 => mono i _ (by omega) (by omega) hb, a5⟩
        | false =>
          rw [if_neg Bool.false_ne_true]
          refine wpS_pure ⟨rfl, _, _, rfl, by omega, by omega, by omega, a4, fun i i1 i2 => ?_⟩
          cases q : bey left key arr base i with
          | false => rfl
          | true => rw [mono _ i i1 i2 q] at hb; cases hb
  unfold gallop'
  refine wpS_bind (B hk hn ?_)
  cases hb : bey left key arr base hint with
  | true =>
    dsimp only
    rw [if_pos rfl]
    refine wpS_bind (wpS_mono (wpS_forRange (I := fun x c st' => st' = st ∧ ∃ l o, c = (none, l, o) ∧ l < o ∧ x + 1 ≤ o ∧ l < n - hint ∧ bey left key arr base (hint + l) = true)
      (Q := fun c st' => st' = st ∧ ∃ l o, c = (none, l, o) ∧ l < o ∧ l < n - hint ∧ bey left key arr base (hint + l) = true ∧ (n - hint ≤ o ∨ bey left key arr base (hint + o) = false)) ?step ?fin ⟨rfl, 0, 1, rfl, by omega, by omega, by omega, hb⟩) ?post)
    case post =>
      rintro c st' ⟨rfl, l, o, rfl, a1, a2, a3, a4⟩
      dsimp only
      refine J (hint + l + 1) (hint + min o (n - hint)) (by omega) (by omega) (fun i hi => mono i _ (by omega) (by omega) a3) (fun i i1 i2 => ?_) (fun _ _ => True) _ _ (fun _ _ _ => rfl) (fun _ _ => rfl)
      rcases a4 with a4 | a4
      · omega
      · cases q : bey left key arr base i with
        | false => rfl
        | true => rw [mono (hint + o) i (by omega) i2 q] at a4; cases a4
    case fin =>
      rintro c st' ⟨rfl, l, o, rfl, a1, a2, a3, a4⟩
      exact ⟨rfl, l, o, rfl, a1, a3, a4, .inl (by omega)⟩
    case step =>
      rintro x c st' _ hx ⟨rfl, l, o, rfl, a1, a2, a3, a4⟩
      dsimp only
      by_cases hge : o ≥ n - hint
      · rw [if_pos hge]
        exact wpS_pure ⟨rfl, l, o, rfl, a1, a3, a4, .inl hge⟩
      · rw [if_neg hge]
        refine wpS_bind (B hk (by omega) ?_)
        dsimp only
        cases q : bey left key arr base (hint + o) with
        | true =>
          exact wpS_pure ⟨rfl, o, 2 * o + 1, rfl, by omega, by omega, by omega, q⟩
        | false =>
          exact wpS_pure ⟨rfl, l, o, rfl, a1, a3, a4, .inr q⟩
  | false =>
    dsimp only
    rw [if_neg Bool.false_ne_true]
    refine wpS_bind (wpS_mono (wpS_forRange (I := fun x c st' => st' = st ∧ ∃ l o, c = (none, l, o) ∧ l < o ∧ x + 1 ≤ o ∧ l < hint + 1 ∧ bey left key arr base (hint - l) = false)
      (Q := fun c st' => st' = st ∧ ∃ l o, c = (none, l, o) ∧ l < o ∧ l < hint + 1 ∧ bey left key arr base (hint - l) = false ∧ (hint + 1 ≤ o ∨ bey left key arr base (hint - o) = true)) ?step ?fin ⟨rfl, 0, 1, rfl, by omega, by omega, by omega, by rw [Nat.sub_zero]; exact hb⟩) ?post)
    case post =>
      rintro c st' ⟨rfl, l, o, rfl, a1, a2, a3, a4⟩
      dsimp only
      refine J (hint + 1 - min o (hint + 1)) (hint - l) (by omega) (by omega) (fun i hi => ?_) (fun i i1 i2 => ?_) (fun _ _ => True) _ _ (fun _ _ _ => rfl) (fun _ _ => rfl)
      · rcases a4 with a4 | a4
        · omega
        · exact mono i _ (by omega) (by omega) a4
      · cases q : bey left key arr base i with
        | false => rfl
        | true => rw [mono (hint - l) i i1 i2 q] at a3; cases a3
    case fin =>
      rintro c st' ⟨rfl, l, o, rfl, a1, a2, a3, a4⟩
      exact ⟨rfl, l, o, rfl, a1, a3, a4, .inl (by omega)⟩
    case step =>
      rintro x c st' _ hx ⟨rfl, l, o, rfl, a1, a2, a3, a4⟩
      dsimp only
      by_cases hge : o ≥ hint + 1
      · rw [if_pos hge]
        exact wpS_pure ⟨rfl, l, o, rfl, a1, a3, a4, .inl hge⟩
      · rw [if_neg hge]
        refine wpS_bind (B hk (by omega) ?_)
        dsimp only
        cases q : bey left key arr base (hint - o) with
        | true =>
          exact wpS_pure ⟨rfl, l, o, rfl, a1, a3, a4, .inr q⟩
        | false =>
          exact wpS_pure ⟨rfl, o, 2 * o + 1, rfl, by omega, by omega, by omega, q⟩
end
end
end Bd
namespace Bd
open PySem PyProof.Rows
noncomputable section
abbrev SrL (l : List Keyed) : Prop := l.Pairwise fun x y => kn x ≤ kn y
structure MgI (aL bL out ra rb : List Keyed) : Prop where
  pm : (out ++ (ra ++ rb)).Perm (aL ++ bL)
  so : SrL out
  sa : SrL ra
  sb : SrL rb
  le : ∀ x ∈ out, ∀ y, y ∈ ra ∨ y ∈ rb → kn x ≤ kn y
def MgF (aL bL r : List Keyed) : Prop := r.Perm (aL ++ bL) ∧ SrL r
theorem MgI.mva {aL bL out pre ra rb : List Keyed} (h : MgI aL bL out (pre ++ ra) rb) (hp : ∀ x ∈ pre, ∀ y ∈ rb, kn x ≤ kn y) : MgI aL bL (out ++ pre) ra rb := by
  have sa := List.pairwise_append.mp h.sa
  refine ⟨by rw [List.append_assoc]; have := h.pm; rwa [List.append_assoc] at this, List.pairwise_append.mpr ⟨h.so, sa.1, fun x hx y hy => h.le x hx y (.inl (List.mem_append.mpr (.inl hy)))⟩, sa.2.1, h.sb, fun x hx y hy => ?_⟩
  rcases List.mem_append.mp hx with q | q
  · exact h.le x q y (hy.imp (fun z => List.mem_append.mpr (.inr z)) id)
  · rcases hy with z | z
    · exact sa.2.2 x q y z
    · exact hp x q y z
theorem MgI.mvb {aL bL out pre ra rb : List Keyed} (h : MgI aL bL out ra (pre ++ rb)) (hp : ∀ x ∈ pre, ∀ y ∈ ra, kn x ≤ kn y) : MgI aL bL (out ++ pre) ra rb := by
  have sb := List.pairwise_append.mp h.sb
  refine ⟨?_, List.pairwise_append.mpr ⟨h.so, sb.1, fun x hx y hy => h.le x hx y (.inr (List.mem_append.mpr (.inl hy)))⟩, h.sa, sb.2.1, fun x hx y hy => ?_⟩
  · refine List.Perm.trans ?_ h.pm
    rw [List.append_assoc]
    refine List.Perm.append_left out ?_
    rw [← List.append_assoc, ← List.append_assoc]
    exact List.perm_append_comm.append_right rb
  · rcases List.mem_append.mp hx with q | q
    · exact h.le x q y (hy.imp id fun z => List.mem_append.mpr (.inr z))
    · rcases hy with z | z
      · exact hp x q y z
      · exact sb.2.2 x q y z
theorem MgI.da {aL bL out ra : List Keyed} (h : MgI aL bL out ra []) : MgF aL bL (out ++ ra) := by
  have := h.pm
  rw [List.append_nil] at this
  exact ⟨this, List.pairwise_append.mpr ⟨h.so, h.sa, fun x hx y hy => h.le x hx y (.inl hy)⟩⟩
theorem MgI.db {aL bL out rb : List Keyed} (h : MgI aL bL out [] rb) : MgF aL bL (out ++ rb) := by
  have := h.pm
  rw [List.nil_append] at this
  exact ⟨this, List.pairwise_append.mpr ⟨h.so, h.sb, fun x hx y hy => h.le x hx y (.inr hy)⟩⟩
theorem MgI.last {aL bL out ra rb : List Keyed} (h : MgI aL bL out ra rb) (hl : ∀ y ∈ rb, ∀ z ∈ ra, kn y ≤ kn z) : MgF aL bL (out ++ rb ++ ra) := by
  have h2 : MgI aL bL (out ++ rb) ra [] := MgI.mvb (pre := rb) (rb := []) (by rw [List.append_nil]; exact h) hl
  exact h2.da
structure EqS (st st' : SortSt) : Prop where
  a : arrOf st' = arrOf st
  k : kindOf st' = kindOf st
  f : failedOf st' = failedOf st
  p : pendingOf st' = pendingOf st
theorem EqS.refl (st : SortSt) : EqS st st := ⟨rfl, rfl, rfl, rfl⟩
theorem EqS.trans {a b c : SortSt} (h : EqS a b) (k : EqS b c) : EqS a c := ⟨k.a.trans h.a, k.k.trans h.k, k.f.trans h.f, k.p.trans h.p⟩
theorem drop_at {a : Array Keyed} {i : Nat} (h : i < a.size) : a.toList.drop i = a[i] :: a.toList.drop (i + 1) := by
  rw [List.drop_eq_getElem_cons (by simpa using h)]; simp
theorem ext_all (a : Array Keyed) (i : Nat) : (a.extract i).toList = a.toList.drop i := by
  rw [Array.toList_extract, List.extract_eq_drop_take]
  exact List.take_of_length_le (by simp)
theorem ext_take (a : Array Keyed) (i k : Nat) : (a.extract i (i + k)).toList = (a.toList.drop i).take k := by
  simp [Array.toList_extract, List.extract_eq_drop_take]
theorem drop_split (a : Array Keyed) (i k : Nat) : a.toList.drop i = (a.toList.drop i).take k ++ a.toList.drop (i + k) := by
  rw [← List.drop_drop, List.take_append_drop]
theorem take_mem {a : Array Keyed} {i k : Nat} {x : Keyed} (h : x ∈ (a.toList.drop i).take k) : ∃ j, j < k ∧ a[i + j]? = some x := by
  obtain ⟨j, hj⟩ := List.getElem?_of_mem h
  rw [List.getElem?_take] at hj
  split at hj
  · next hlt =>
    rw [List.getElem?_drop] at hj
    exact ⟨j, hlt, by simpa using hj⟩
  · cases hj
theorem drop_mem {a : Array Keyed} {i : Nat} {x : Keyed} (h : x ∈ a.toList.drop i) : ∃ j, i ≤ j ∧ j < a.size ∧ a[j]? = some x := by
  obtain ⟨j, hj⟩ := List.getElem?_of_mem h
  rw [List.getElem?_drop] at hj
  have hl := (List.getElem?_eq_some_iff.mp hj).1
  exact ⟨i + j, by omega, by simpa using hl, by simpa using hj⟩
theorem K_get {a : Array Keyed} {i : Nat} (h : i < a.size) : K a i = kn a[i] := K_at (by simp [h])
section
variable {prog : Program} {w : World} {A : Around} {E : Value → Shared → Prop} {s : Shared}
theorem wpS_minG {st : SortSt} {g : Nat} {Q : Unit → SortSt → Prop} (h : ∀ st', EqS st st' → Q () st') : wpS (model prog w) A E s ((sortPriv% PySem.Builtin.setMinGallop) g) Q st := by
  have : ∀ (m : StateT SortSt Sem Unit), m = modify (fun st => SortSt.mk' (kindOf st) (arrOf st) (pendingOf st) g (failedOf st)) → wpS (model prog w) A E s m Q st := fun m e => by
    rw [e]
    exact wpS_modify (h _ ⟨rfl, rfl, rfl, rfl⟩)
  exact this _ rfl
def mergeLo' : Array Keyed → Array Keyed → StateT SortSt Sem (Array Keyed) := sortPriv% PySem.Builtin.mergeLo
theorem wpS_mergeLo {st : SortSt} {a b : Array Keyed} {Q : Array Keyed → SortSt → Prop} (hk : kindOf st = oneType') (aK : ∀ p ∈ a.toList, IsK p) (bK : ∀ p ∈ b.toList, IsK p) (aS : SortedTo a a.size) (bS : SortedTo b b.size)
    (a1 : 1 ≤ a.size) (b1 : 1 ≤ b.size) (hf : K b 0 ≤ K a 0) (hl : ∀ j, j < b.size → K b j ≤ K a (a.size - 1)) (h : ∀ r st', EqS st st' → MgF a.toList b.toList r.toList → Q r st') : wpS (model prog w) A E s (mergeLo' a b) Q st := by
  have aT : ∀ {i : Nat} (hi : i < a.size), IsK a[i] := fun hi => aK _ (by simp)
  have bT : ∀ {i : Nat} (hi : i < b.size), IsK b[i] := fun hi => bK _ (by simp)
  have aE : ∀ {i : Nat} (hi : i < a.size), a[i]? = some a[i] := fun hi => by simp [hi]
  have bE : ∀ {i : Nat} (hi : i < b.size), b[i]? = some b[i] := fun hi => by simp [hi]
  have srt : ∀ (c : Array Keyed), SortedTo c c.size → SrL c.toList := fun c hc => by
    rw [SrL, List.pairwise_iff_getElem]
    intro i j hi hj hij
    have := hc i j (by omega) (by simpa using hj)
    rw [K_get (by simpa using hi), K_get (by simpa using hj)] at this
    simpa using this
  have aD : ∀ {i : Nat} {x : Keyed}, x ∈ a.toList.drop i → ∀ hi : i < a.size, kn a[i] ≤ kn x := fun {i x} hx hi => by
    obtain ⟨j, h1, h2, h3⟩ := drop_mem hx
    have := aS i j h1 h2
    rw [K_get hi, K_at h3] at this
    exact this
  have bD : ∀ {i : Nat} {x : Keyed}, x ∈ b.toList.drop i → ∀ hi : i < b.size, kn b[i] ≤ kn x := fun {i x} hx hi => by
    obtain ⟨j, h1, h2, h3⟩ := drop_mem hx
    have := bS i j h1 h2
    rw [K_get hi, K_at h3] at this
    exact this
  have done : ∀ {out : Array Keyed} {ia : Nat}, ∀ ib, MgI a.toList b.toList out.toList (a.toList.drop ia) (b.toList.drop ib) → ib = b.size → MgF a.toList b.toList (out ++ a.extract ia ++ b.extract ib).toList := fun {out ia} ib m e => by
    subst e
    rw [Array.toList_append, Array.toList_append, ext_all, ext_all]
    have e0 : b.toList.drop b.size = [] := by rw [List.drop_eq_nil_iff]; simp
    rw [e0] at m ⊢
    rw [List.append_nil]
    exact m.da
  have done2 : ∀ {out : Array Keyed} {ib : Nat}, ∀ ia, MgI a.toList b.toList out.toList (a.toList.drop ia) (b.toList.drop ib) → ia = a.size → MgF a.toList b.toList (out ++ a.extract ia ++ b.extract ib).toList := fun {out ib} ia m e => by
    subst e
    rw [Array.toList_append, Array.toList_append, ext_all, ext_all]
    have e0 : a.toList.drop a.size = [] := by rw [List.drop_eq_nil_iff]; simp
    rw [e0] at m ⊢
    rw [List.append_nil]
    exact m.db
  have last : ∀ {out : Array Keyed} {ia ib : Nat}, MgI a.toList b.toList out.toList (a.toList.drop ia) (b.toList.drop ib) → ia + 1 = a.size → MgF a.toList b.toList (out ++ b.extract ib ++ a.extract ia).toList := fun {out ia ib} m e => by
    rw [Array.toList_append, Array.toList_append, ext_all, ext_all]
    refine m.last fun y hy z hz => ?_
    obtain ⟨j, _, h2, h3⟩ := drop_mem hy
    obtain ⟨j', h4, h5, h6⟩ := drop_mem hz
    have := hl j h2
    rw [K_at h3, show a.size - 1 = j' by omega, K_at h6] at this
    exact this
  have takeB : ∀ {out : Array Keyed} {ia ib : Nat}, MgI a.toList b.toList out.toList (a.toList.drop ia) (b.toList.drop ib) → ∀ hb : ib < b.size, (∀ y ∈ a.toList.drop ia, kn b[ib] ≤ kn y) → MgI a.toList b.toList (out.push b[ib]).toList (a.toList.drop ia) (b.toList.drop (ib + 1)) := fun {out ia ib} m hb hy => by
    rw [Array.toList_push]
    rw [drop_at hb] at m
    exact MgI.mvb (pre := [b[ib]]) m fun x hx y h => by rw [List.mem_singleton.mp hx]; exact hy y h
  have takeA : ∀ {out : Array Keyed} {ia ib : Nat}, MgI a.toList b.toList out.toList (a.toList.drop ia) (b.toList.drop ib) → ∀ ha : ia < a.size, (∀ y ∈ b.toList.drop ib, kn a[ia] ≤ kn y) → MgI a.toList b.toList (out.push a[ia]).toList (a.toList.drop (ia + 1)) (b.toList.drop ib) := fun {out ia ib} m ha hy => by
    rw [Array.toList_push]
    rw [drop_at ha] at m
    exact MgI.mva (pre := [a[ia]]) m fun x hx y h => by rw [List.mem_singleton.mp hx]; exact hy y h
  have runA : ∀ {out : Array Keyed} {ia ib : Nat} (k : Nat), MgI a.toList b.toList out.toList (a.toList.drop ia) (b.toList.drop ib) → (∀ x ∈ (a.toList.drop ia).take k, ∀ y ∈ b.toList.drop ib, kn x ≤ kn y) → MgI a.toList b.toList (out ++ a.extract ia (ia + k)).toList (a.toList.drop (ia + k)) (b.toList.drop ib) := fun {out ia ib} k m hy => by
    rw [Array.toList_append, ext_take]
    rw [drop_split a ia k] at m
    exact m.mva hy
  have runB : ∀ {out : Array Keyed} {ia ib : Nat} (k : Nat), MgI a.toList b.toList out.toList (a.toList.drop ia) (b.toList.drop ib) → (∀ x ∈ (b.toList.drop ib).take k, ∀ y ∈ a.toList.drop ia, kn x ≤ kn y) → MgI a.toList b.toList (out ++ b.extract ib (ib + k)).toList (a.toList.drop ia) (b.toList.drop (ib + k)) := fun {out ia ib} k m hy => by
    rw [Array.toList_append, ext_take]
    rw [drop_split b ib k] at m
    exact m.mvb hy
  have m0 : MgI a.toList b.toList (#[] : Array Keyed).toList (a.toList.drop 0) (b.toList.drop 0) := by
    rw [List.drop_zero, List.drop_zero]
    exact ⟨by simp, List.Pairwise.nil, srt a aS, srt b bS, fun x hx => by cases hx⟩
  have mB := takeB m0 (show 0 < b.size by omega) fun y hy => by
    have h1 := aD hy (show 0 < a.size by omega)
    rw [K_get (show 0 < b.size by omega), K_get (show 0 < a.size by omega)] at hf
    omega
  have monoA : ∀ {key : Keyed} {ia n : Nat}, ia + n ≤ a.size → ∀ i j, i ≤ j → j < n → bey false key a ia j = true → bey false key a ia i = true := fun {key ia n} hn i j h1 h2 h3 => by
    unfold bey at h3 ⊢
    rw [if_neg Bool.false_ne_true] at h3 ⊢
    have := aS (ia + i) (ia + j) (by omega) (by omega)
    simp only [Bool.not_eq_true', decide_eq_false_iff_not] at h3 ⊢
    omega
  have monoB : ∀ {key : Keyed} {ib n : Nat}, ib + n ≤ b.size → ∀ i j, i ≤ j → j < n → bey true key b ib j = true → bey true key b ib i = true := fun {key ib n} hn i j h1 h2 h3 => by
    unfold bey at h3 ⊢
    rw [if_pos rfl] at h3 ⊢
    have := bS (ib + i) (ib + j) (by omega) (by omega)
    simp only [decide_eq_true_eq] at h3 ⊢
    omega
  have preA : ∀ {ia ib k : Nat} (hb : ib < b.size), (∀ i, i < k → bey false b[ib] a ia i = true) → ∀ x ∈ (a.toList.drop ia).take k, ∀ y ∈ b.toList.drop ib, kn x ≤ kn y := fun {ia ib k} hb hk x hx y hy => by
    obtain ⟨j, j1, j2⟩ := take_mem hx
    have h3 := hk j j1
    unfold bey at h3
    rw [if_neg Bool.false_ne_true, K_at j2] at h3
    simp only [Bool.not_eq_true', decide_eq_false_iff_not] at h3
    have := bD hy hb
    omega
  have postA : ∀ {ia ib k : Nat} (hb : ib < b.size), (∀ i, k ≤ i → i < a.size - ia → bey false b[ib] a ia i = false) → ∀ y ∈ a.toList.drop (ia + k), kn b[ib] ≤ kn y := fun {ia ib k} hb hk y hy => by
    obtain ⟨j, j1, j2, j3⟩ := drop_mem hy
    have h3 := hk (j - ia) (by omega) (by omega)
    unfold bey at h3
    rw [if_neg Bool.false_ne_true, show ia + (j - ia) = j by omega, K_at j3] at h3
    simp only [Bool.not_eq_false', decide_eq_true_eq] at h3
    omega
  have preB : ∀ {ia ib k : Nat} (ha : ia < a.size), (∀ i, i < k → bey true a[ia] b ib i = true) → ∀ x ∈ (b.toList.drop ib).take k, ∀ y ∈ a.toList.drop ia, kn x ≤ kn y := fun {ia ib k} ha hk x hx y hy => by
    obtain ⟨j, j1, j2⟩ := take_mem hx
    have h3 := hk j j1
    unfold bey at h3
    rw [if_pos rfl, K_at j2] at h3
    simp only [decide_eq_true_eq] at h3
    have := aD hy ha
    omega
  have postB : ∀ {ia ib k : Nat} (ha : ia < a.size), (∀ i, k ≤ i → i < b.size - ib → bey true a[ia] b ib i = false) → ∀ y ∈ b.toList.drop (ib + k), kn a[ia] ≤ kn y := fun {ia ib k} ha hk y hy => by
    obtain ⟨j, j1, j2, j3⟩ := drop_mem hy
    have h3 := hk (j - ib) (by omega) (by omega)
    unfold bey at h3
    rw [if_pos rfl, show ib + (j - ib) = j by omega, K_at j3] at h3
    simp only [decide_eq_false_iff_not] at h3
    omega
  unfold mergeLo'
  refine wpS_bind (wpS_lift (wpAny_rule ⟨rfl, ?_⟩))
  dsimp only
  refine wpS_bind (wpS_elem (bE (show 0 < b.size by omega)) ?_)
  by_cases q1 : 1 = b.size
  · rw [if_pos (by simpa using q1)]
    refine wpS_pure (h _ st (EqS.refl _) ?_)
    exact done (ia := 0) 1 mB q1
  rw [if_neg (by simpa using q1)]
  by_cases q2 : 0 + 1 = a.size
  · rw [if_pos (by simpa using q2)]
    exact wpS_pure (h _ st (EqS.refl _) (last (ia := 0) mB q2))
  rw [if_neg (by simpa using q2)]
  refine wpS_bind (wpS_get ?_)
  refine wpS_bind (wpS_mono (wpS_forRange
    (I := fun x c st' => EqS st st' ∧ ∃ out ia ib mg, c = (none, out, ia, ib, mg) ∧ ia + 1 < a.size ∧ ib < b.size ∧ x ≤ ia + ib ∧ MgI a.toList b.toList out.toList (a.toList.drop ia) (b.toList.drop ib))
    (Q := fun c st' => EqS st st' ∧ ∃ r y, c = (some r, y) ∧ MgF a.toList b.toList r.toList) ?step ?fin ⟨EqS.refl _, _, 0, 1, _, rfl, by omega, by omega, by omega, mB⟩) ?post)
  case post =>
    rintro c st' ⟨es, r, y, rfl, hr⟩
    exact wpS_pure (h r st' es hr)
  case fin =>
    rintro c st' ⟨es, out, ia, ib, mg, rfl, i1, i2, i3, m⟩
    exact absurd i3 (by omega)
  case step =>
    rintro x c st' _ hx ⟨es, out, ia, ib, mg, rfl, i1, i2, i3, m⟩
    dsimp only
    refine wpS_bind (wpS_mono (wpS_forRange
      (I := fun x c st'' => st'' = st' ∧ ∃ out' ia' ib' ac bc, c = (none, out', ia', ib', ac, bc) ∧ ia' + 1 < a.size ∧ ib' < b.size ∧ x + (ia + ib) ≤ ia' + ib' ∧ MgI a.toList b.toList out'.toList (a.toList.drop ia') (b.toList.drop ib'))
      (Q := fun c st'' => st'' = st' ∧ ((∃ r y, c = (some r, y) ∧ MgF a.toList b.toList r.toList) ∨ ∃ out' ia' ib' ac bc, c = (none, out', ia', ib', ac, bc) ∧ ia' + 1 < a.size ∧ ib' < b.size ∧ ia + ib + 1 ≤ ia' + ib' ∧ MgI a.toList b.toList out'.toList (a.toList.drop ia') (b.toList.drop ib'))) ?istep ?ifin ⟨rfl, out, ia, ib, 0, 0, rfl, i1, i2, by omega, m⟩) ?ipost)
    case ifin =>
      rintro c st'' ⟨rfl, out', ia', ib', ac, bc, rfl, j1, j2, j3, m'⟩
      exact absurd j3 (by omega)
    case istep =>
      rintro y c st'' _ hy ⟨rfl, out', ia', ib', ac, bc, rfl, j1, j2, j3, m'⟩
      dsimp only
      refine wpS_bind (wpS_elem (bE j2) (wpS_bind (wpS_elem (aE (show ia' < a.size by omega)) (wpS_bind (wpS_ltP (es.k.trans hk) (bT j2) (aT (by omega)) ?_)))))
      dsimp only
      by_cases hw : kn b[ib'] < kn a[ia']
      · rw [if_pos (decide_eq_true hw)]
        refine wpS_bind (wpS_elem (bE j2) ?_)
        have m2 := takeB m' j2 fun z hz => by have := aD hz (by omega); omega
        by_cases r1 : ib' + 1 = b.size
        · rw [if_pos (by simpa using r1)]
          refine wpS_pure ⟨rfl, .inl ⟨_, _, rfl, ?_⟩⟩
          exact done _ m2 r1
        · rw [if_neg (by simpa using r1)]
          by_cases r2 : bc + 1 ≥ mg
          · rw [if_pos r2]
            exact wpS_pure ⟨rfl, .inr ⟨_, _, _, _, _, rfl, j1, by omega, by omega, m2⟩⟩
          · rw [if_neg r2]
            exact wpS_pure ⟨rfl, _, _, _, _, _, rfl, j1, by omega, by omega, m2⟩
      · rw [if_neg (by simpa using hw)]
        refine wpS_bind (wpS_elem (aE (show ia' < a.size by omega)) ?_)
        have m2 := takeA m' (show ia' < a.size by omega) fun z hz => by have := bD hz j2; omega
        by_cases r1 : ia' + 1 + 1 = a.size
        · rw [if_pos (by simpa using r1)]
          exact wpS_pure ⟨rfl, .inl ⟨_, _, rfl, last m2 r1⟩⟩
        · rw [if_neg (by simpa using r1)]
          by_cases r2 : ac + 1 ≥ mg
          · rw [if_pos r2]
            exact wpS_pure ⟨rfl, .inr ⟨_, _, _, _, _, rfl, by omega, j2, by omega, m2⟩⟩
          · rw [if_neg r2]
            exact wpS_pure ⟨rfl, _, _, _, _, _, rfl, by omega, j2, by omega, m2⟩
    case ipost =>
      rintro c st'' ⟨rfl, ⟨r, y, rfl, hr⟩ | ⟨out', ia', ib', ac, bc, rfl, j1, j2, j3, m'⟩⟩
      · dsimp only
        exact wpS_pure ⟨es, r, _, rfl, hr⟩
      dsimp only
      refine wpS_bind (wpS_lift (wpAny_rule ⟨rfl, ?_⟩))
      refine wpS_bind (wpS_mono (wpS_forRange
        (I := fun x c st3 => EqS st st3 ∧ ∃ out2 ia2 ib2 mg2 ac2 bc2, c = (none, out2, ia2, ib2, mg2, ac2, bc2) ∧ ia2 + 1 < a.size ∧ ib2 < b.size ∧ x + (ia + ib + 1) ≤ ia2 + ib2 ∧ MgI a.toList b.toList out2.toList (a.toList.drop ia2) (b.toList.drop ib2))
        (Q := fun c st3 => EqS st st3 ∧ ((∃ r y, c = (some r, y) ∧ MgF a.toList b.toList r.toList) ∨ ∃ out2 ia2 ib2 mg2 ac2 bc2, c = (none, out2, ia2, ib2, mg2, ac2, bc2) ∧ ia2 + 1 < a.size ∧ ib2 < b.size ∧ ia + ib + 1 ≤ ia2 + ib2 ∧ MgI a.toList b.toList out2.toList (a.toList.drop ia2) (b.toList.drop ib2))) ?gstep ?gfin ⟨es, out', ia', ib', _, _, _, rfl, j1, j2, by omega, m'⟩) ?gpost)
      case gfin =>
        rintro c st3 ⟨es3, out2, ia2, ib2, mg2, ac2, bc2, rfl, l1, l2, l3, m2⟩
        exact absurd l3 (by omega)
      case gpost =>
        rintro c st3 ⟨es3, ⟨r, y, rfl, hr⟩ | ⟨out2, ia2, ib2, mg2, ac2, bc2, rfl, l1, l2, l3, m2⟩⟩
        · dsimp only
          exact wpS_pure ⟨es3, r, _, rfl, hr⟩
        · dsimp only
          refine wpS_bind (wpS_minG fun st4 es4 => ?_)
          exact wpS_pure ⟨es3.trans es4, _, _, _, _, rfl, l1, l2, by omega, m2⟩
      case gstep =>
        rintro y c st3 _ hy ⟨es3, out2, ia2, ib2, mg2, ac2, bc2, rfl, l1, l2, l3, m2⟩
        dsimp only
        by_cases g0 : mg2 > 1
        · rw [if_pos g0]
          refine wpS_bind (wpS_minG fun st4 es4 => ?_)
          have es5 := es3.trans es4
          refine wpS_bind (wpS_elem (bE l2) ?_)
          refine wpS_bind (wpS_gallop (es5.k.trans hk) (bT l2) (fun i hi => ⟨a[ia2 + i]'(by omega), aE (by omega), aT (by omega)⟩) (by omega) (monoA (by omega)) fun k k1 k2 k3 => ?_)
          dsimp only
          have pre := preA l2 k2
          have post := postA l2 k3
          by_cases k0 : k > 0
          · rw [if_pos k0]
            have m3 := runA k m2 pre
            by_cases r1 : ia2 + k + 1 = a.size
            · rw [if_pos (by simpa using r1)]
              exact wpS_pure ⟨es5, .inl ⟨_, _, rfl, last m3 r1⟩⟩
            rw [if_neg (by simpa using r1)]
            by_cases r2 : ia2 + k = a.size
            · rw [if_pos (by simpa using r2)]
              exact wpS_pure ⟨es5, .inl ⟨_, _, rfl, done2 _ m3 r2⟩⟩
            rw [if_neg (by simpa using r2)]
            have i4 : ia2 + k < a.size := by omega
            have post3 := post
            refine wpS_bind (wpS_elem (bE l2) ?_)
            have m4 := takeB m3 l2 post3
            by_cases r3 : ib2 + 1 = b.size
            · rw [if_pos (by simpa using r3)]
              exact wpS_pure ⟨es5, .inl ⟨_, _, rfl, done _ m4 r3⟩⟩
            rw [if_neg (by simpa using r3)]
            refine wpS_bind (wpS_elem (aE i4) ?_)
            refine wpS_bind (wpS_gallop (es5.k.trans hk) (aT i4) (fun i hi => ⟨b[ib2 + 1 + i]'(by omega), bE (by omega), bT (by omega)⟩) (by omega) (monoB (by omega)) fun q q1 q2 q3 => ?_)
            dsimp only
            have pre4 := preB i4 q2
            have post4 := postB i4 q3
            by_cases q0 : q > 0
            · rw [if_pos q0]
              have m5 := runB q m4 pre4
              by_cases r4 : ib2 + 1 + q = b.size
              · rw [if_pos (by simpa using r4)]
                exact wpS_pure ⟨es5, .inl ⟨_, _, rfl, done _ m5 r4⟩⟩
              rw [if_neg (by simpa using r4)]
              have l5 : ib2 + 1 + q < b.size := by omega
              have post5 := post4
              refine wpS_bind (wpS_elem (aE i4) ?_)
              have m6 := takeA m5 i4 post5
              split
              · next r5 => exact wpS_pure ⟨es5, .inl ⟨_, _, rfl, last m6 (beq_iff_eq.mp r5)⟩⟩
              · next r5 =>
                have r6 := mt beq_iff_eq.mpr r5
                split
                · exact wpS_pure ⟨es5, .inr ⟨_, _, _, _, _, _, rfl, by omega, by omega, by omega, m6⟩⟩
                · exact wpS_pure ⟨es5, _, _, _, _, _, _, rfl, by omega, by omega, by omega, m6⟩
            · rw [if_neg q0]
              have e0 : q = 0 := by omega
              subst e0
              have m5 := m4
              have post5 := post4
              rw [Nat.add_zero] at post5
              refine wpS_bind (wpS_elem (aE i4) ?_)
              have m6 := takeA m5 i4 post5
              split
              · next r5 => exact wpS_pure ⟨es5, .inl ⟨_, _, rfl, last m6 (beq_iff_eq.mp r5)⟩⟩
              · next r5 =>
                have r6 := mt beq_iff_eq.mpr r5
                split
                · exact wpS_pure ⟨es5, .inr ⟨_, _, _, _, _, _, rfl, by omega, by omega, by omega, m6⟩⟩
                · exact wpS_pure ⟨es5, _, _, _, _, _, _, rfl, by omega, by omega, by omega, m6⟩
          · rw [if_neg k0]
            have e0 : k = 0 := by omega
            subst e0
            have m3 := m2
            have post3 := post
            rw [Nat.add_zero] at post3
            have i4 : ia2 < a.size := by omega
            refine wpS_bind (wpS_elem (bE l2) ?_)
            have m4 := takeB m3 l2 post3
            by_cases r3 : ib2 + 1 = b.size
            · rw [if_pos (by simpa using r3)]
              exact wpS_pure ⟨es5, .inl ⟨_, _, rfl, done _ m4 r3⟩⟩
            rw [if_neg (by simpa using r3)]
            refine wpS_bind (wpS_elem (aE i4) ?_)
            refine wpS_bind (wpS_gallop (es5.k.trans hk) (aT i4) (fun i hi => ⟨b[ib2 + 1 + i]'(by omega), bE (by omega), bT (by omega)⟩) (by omega) (monoB (by omega)) fun q q1 q2 q3 => ?_)
            dsimp only
            have pre4 := preB i4 q2
            have post4 := postB i4 q3
            by_cases q0 : q > 0
            · rw [if_pos q0]
              have m5 := runB q m4 pre4
              by_cases r4 : ib2 + 1 + q = b.size
              · rw [if_pos (by simpa using r4)]
                exact wpS_pure ⟨es5, .inl ⟨_, _, rfl, done _ m5 r4⟩⟩
              rw [if_neg (by simpa using r4)]
              have l5 : ib2 + 1 + q < b.size := by omega
              have post5 := post4
              refine wpS_bind (wpS_elem (aE i4) ?_)
              have m6 := takeA m5 i4 post5
              split
              · next r5 => exact wpS_pure ⟨es5, .inl ⟨_, _, rfl, last m6 (beq_iff_eq.mp r5)⟩⟩
              · next r5 =>
                have r6 := mt beq_iff_eq.mpr r5
                split
                · exact wpS_pure ⟨es5, .inr ⟨_, _, _, _, _, _, rfl, by omega, by omega, by omega, m6⟩⟩
                · exact wpS_pure ⟨es5, _, _, _, _, _, _, rfl, by omega, by omega, by omega, m6⟩
            · rw [if_neg q0]
              have e0 : q = 0 := by omega
              subst e0
              have m5 := m4
              have post5 := post4
              rw [Nat.add_zero] at post5
              refine wpS_bind (wpS_elem (aE i4) ?_)
              have m6 := takeA m5 i4 post5
              split
              · next r5 => exact wpS_pure ⟨es5, .inl ⟨_, _, rfl, last m6 (beq_iff_eq.mp r5)⟩⟩
              · next r5 =>
                have r6 := mt beq_iff_eq.mpr r5
                split
                · exact wpS_pure ⟨es5, .inr ⟨_, _, _, _, _, _, rfl, by omega, by omega, by omega, m6⟩⟩
                · exact wpS_pure ⟨es5, _, _, _, _, _, _, rfl, by omega, by omega, by omega, m6⟩
        · rw [if_neg g0]
          refine wpS_bind (wpS_minG fun st4 es4 => ?_)
          have es5 := es3.trans es4
          refine wpS_bind (wpS_elem (bE l2) ?_)
          refine wpS_bind (wpS_gallop (es5.k.trans hk) (bT l2) (fun i hi => ⟨a[ia2 + i]'(by omega), aE (by omega), aT (by omega)⟩) (by omega) (monoA (by omega)) fun k k1 k2 k3 => ?_)
          dsimp only
          have pre := preA l2 k2
          have post := postA l2 k3
          by_cases k0 : k > 0
          · rw [if_pos k0]
            have m3 := runA k m2 pre
            by_cases r1 : ia2 + k + 1 = a.size
            · rw [if_pos (by simpa using r1)]
              exact wpS_pure ⟨es5, .inl ⟨_, _, rfl, last m3 r1⟩⟩
            rw [if_neg (by simpa using r1)]
            by_cases r2 : ia2 + k = a.size
            · rw [if_pos (by simpa using r2)]
              exact wpS_pure ⟨es5, .inl ⟨_, _, rfl, done2 _ m3 r2⟩⟩
            rw [if_neg (by simpa using r2)]
            have i4 : ia2 + k < a.size := by omega
            have post3 := post
            refine wpS_bind (wpS_elem (bE l2) ?_)
            have m4 := takeB m3 l2 post3
            by_cases r3 : ib2 + 1 = b.size
            · rw [if_pos (by simpa using r3)]
              exact wpS_pure ⟨es5, .inl ⟨_, _, rfl, done _ m4 r3⟩⟩
            rw [if_neg (by simpa using r3)]
            refine wpS_bind (wpS_elem (aE i4) ?_)
            refine wpS_bind (wpS_gallop (es5.k.trans hk) (aT i4) (fun i hi => ⟨b[ib2 + 1 + i]'(by omega), bE (by omega), bT (by omega)⟩) (by omega) (monoB (by omega)) fun q q1 q2 q3 => ?_)
            dsimp only
            have pre4 := preB i4 q2
            have post4 := postB i4 q3
            by_cases q0 : q > 0
            · rw [if_pos q0]
              have m5 := runB q m4 pre4
              by_cases r4 : ib2 + 1 + q = b.size
              · rw [if_pos (by simpa using r4)]
                exact wpS_pure ⟨es5, .inl ⟨_, _, rfl, done _ m5 r4⟩⟩
              rw [if_neg (by simpa using r4)]
              have l5 : ib2 + 1 + q < b.size := by omega
              have post5 := post4
              refine wpS_bind (wpS_elem (aE i4) ?_)
              have m6 := takeA m5 i4 post5
              split
              · next r5 => exact wpS_pure ⟨es5, .inl ⟨_, _, rfl, last m6 (beq_iff_eq.mp r5)⟩⟩
              · next r5 =>
                have r6 := mt beq_iff_eq.mpr r5
                split
                · exact wpS_pure ⟨es5, .inr ⟨_, _, _, _, _, _, rfl, by omega, by omega, by omega, m6⟩⟩
                · exact wpS_pure ⟨es5, _, _, _, _, _, _, rfl, by omega, by omega, by omega, m6⟩
            · rw [if_neg q0]
              have e0 : q = 0 := by omega
              subst e0
              have m5 := m4
              have post5 := post4
              rw [Nat.add_zero] at post5
              refine wpS_bind (wpS_elem (aE i4) ?_)
              have m6 := takeA m5 i4 post5
              split
              · next r5 => exact wpS_pure ⟨es5, .inl ⟨_, _, rfl, last m6 (beq_iff_eq.mp r5)⟩⟩
              · next r5 =>
                have r6 := mt beq_iff_eq.mpr r5
                split
                · exact wpS_pure ⟨es5, .inr ⟨_, _, _, _, _, _, rfl, by omega, by omega, by omega, m6⟩⟩
                · exact wpS_pure ⟨es5, _, _, _, _, _, _, rfl, by omega, by omega, by omega, m6⟩
          · rw [if_neg k0]
            have e0 : k = 0 := by omega
            subst e0
            have m3 := m2
            have post3 := post
            rw [Nat.add_zero] at post3
            have i4 : ia2 < a.size := by omega
            refine wpS_bind (wpS_elem (bE l2) ?_)
            have m4 := takeB m3 l2 post3
            by_cases r3 : ib2 + 1 = b.size
            · rw [if_pos (by simpa using r3)]
              exact wpS_pure ⟨es5, .inl ⟨_, _, rfl, done _ m4 r3⟩⟩
            rw [if_neg (by simpa using r3)]
            refine wpS_bind (wpS_elem (aE i4) ?_)
            refine wpS_bind (wpS_gallop (es5.k.trans hk) (aT i4) (fun i hi => ⟨b[ib2 + 1 + i]'(by omega), bE (by omega), bT (by omega)⟩) (by omega) (monoB (by omega)) fun q q1 q2 q3 => ?_)
            dsimp only
            have pre4 := preB i4 q2
            have post4 := postB i4 q3
            by_cases q0 : q > 0
            · rw [if_pos q0]
              have m5 := runB q m4 pre4
              by_cases r4 : ib2 + 1 + q = b.size
              · rw [if_pos (by simpa using r4)]
                exact wpS_pure ⟨es5, .inl ⟨_, _, rfl, done _ m5 r4⟩⟩
              rw [if_neg (by simpa using r4)]
              have l5 : ib2 + 1 + q < b.size := by omega
              have post5 := post4
              refine wpS_bind (wpS_elem (aE i4) ?_)
              have m6 := takeA m5 i4 post5
              split
              · next r5 => exact wpS_pure ⟨es5, .inl ⟨_, _, rfl, last m6 (beq_iff_eq.mp r5)⟩⟩
              · next r5 =>
                have r6 := mt beq_iff_eq.mpr r5
                split
                · exact wpS_pure ⟨es5, .inr ⟨_, _, _, _, _, _, rfl, by omega, by omega, by omega, m6⟩⟩
                · exact wpS_pure ⟨es5, _, _, _, _, _, _, rfl, by omega, by omega, by omega, m6⟩
            · rw [if_neg q0]
              have e0 : q = 0 := by omega
              subst e0
              have m5 := m4
              have post5 := post4
              rw [Nat.add_zero] at post5
              refine wpS_bind (wpS_elem (aE i4) ?_)
              have m6 := takeA m5 i4 post5
              split
              · next r5 => exact wpS_pure ⟨es5, .inl ⟨_, _, rfl, last m6 (beq_iff_eq.mp r5)⟩⟩
              · next r5 =>
                have r6 := mt beq_iff_eq.mpr r5
                split
                · exact wpS_pure ⟨es5, .inr ⟨_, _, _, _, _, _, rfl, by omega, by omega, by omega, m6⟩⟩
                · exact wpS_pure ⟨es5, _, _, _, _, _, _, rfl, by omega, by omega, by omega, m6⟩
end
end
end Bd
namespace Bd
open PySem PyProof.Rows
noncomputable section
structure HgI (aL bL ra rb out : List Keyed) : Prop where
  pm : (ra ++ (rb ++ out)).Perm (aL ++ bL)
  so : SrL out
  sa : SrL ra
  sb : SrL rb
  le : ∀ x, x ∈ ra ∨ x ∈ rb → ∀ y ∈ out, kn x ≤ kn y
theorem HgI.mva {aL bL ra rb suf out : List Keyed} (h : HgI aL bL (ra ++ suf) rb out) (hp : ∀ x ∈ rb, ∀ y ∈ suf, kn x ≤ kn y) : HgI aL bL ra rb (suf ++ out) := by
  have sa := List.pairwise_append.mp h.sa
  refine ⟨?_, List.pairwise_append.mpr ⟨sa.2.1, h.so, fun x hx y hy => h.le x (.inl (List.mem_append.mpr (.inr hx))) y hy⟩, sa.1, h.sb, fun x hx y hy => ?_⟩
  · refine List.Perm.trans ?_ h.pm
    rw [List.append_assoc]
    refine List.Perm.append_left ra ?_
    rw [← List.append_assoc, ← List.append_assoc]
    exact List.perm_append_comm.append_right out
  · rcases List.mem_append.mp hy with q | q
    · rcases hx with z | z
      · exact sa.2.2 x z y q
      · exact hp x z y q
    · exact h.le x (hx.imp (fun z => List.mem_append.mpr (.inl z)) id) y q
theorem HgI.mvb {aL bL ra rb suf out : List Keyed} (h : HgI aL bL ra (rb ++ suf) out) (hp : ∀ x ∈ ra, ∀ y ∈ suf, kn x ≤ kn y) : HgI aL bL ra rb (suf ++ out) := by
  have sb := List.pairwise_append.mp h.sb
  refine ⟨by rw [← List.append_assoc rb]; exact h.pm, List.pairwise_append.mpr ⟨sb.2.1, h.so, fun x hx y hy => h.le x (.inr (List.mem_append.mpr (.inr hx))) y hy⟩, h.sa, sb.1, fun x hx y hy => ?_⟩
  rcases List.mem_append.mp hy with q | q
  · rcases hx with z | z
    · exact hp x z y q
    · exact sb.2.2 x z y q
  · exact h.le x (hx.imp id fun z => List.mem_append.mpr (.inl z)) y q
theorem HgI.da {aL bL ra out : List Keyed} (h : HgI aL bL ra [] out) : MgF aL bL (ra ++ out) :=
  ⟨h.pm, List.pairwise_append.mpr ⟨h.sa, h.so, fun x hx y hy => h.le x (.inl hx) y hy⟩⟩
theorem HgI.db {aL bL rb out : List Keyed} (h : HgI aL bL [] rb out) : MgF aL bL (rb ++ out) :=
  ⟨h.pm, List.pairwise_append.mpr ⟨h.sb, h.so, fun x hx y hy => h.le x (.inr hx) y hy⟩⟩
theorem HgI.first {aL bL ra rb out : List Keyed} (h : HgI aL bL ra rb out) (hl : ∀ y ∈ rb, ∀ z ∈ ra, kn y ≤ kn z) : MgF aL bL (rb ++ ra ++ out) := by
  have h2 : HgI aL bL [] rb (ra ++ out) := HgI.mva (ra := []) (suf := ra) h hl
  rw [List.append_assoc]
  exact h2.db
theorem ext_to (a : Array Keyed) (n : Nat) : (a.extract 0 n).toList = a.toList.take n := by
  rw [Array.toList_extract, List.extract_eq_drop_take]; simp
theorem ext_mid (a : Array Keyed) (i n : Nat) : (a.extract i n).toList = (a.toList.drop i).take (n - i) := by
  rw [Array.toList_extract, List.extract_eq_drop_take]
theorem take_split (a : Array Keyed) {i n : Nat} (h : i ≤ n) : a.toList.take n = a.toList.take i ++ (a.toList.drop i).take (n - i) := by
  have := List.take_add (l := a.toList) (i := i) (j := n - i)
  rwa [show i + (n - i) = n by omega] at this
theorem take_at {a : Array Keyed} {n : Nat} (h : n - 1 < a.size) (h0 : 1 ≤ n) : a.toList.take n = a.toList.take (n - 1) ++ [a[n - 1]] := by
  have := List.take_append_getElem (l := a.toList) (i := n - 1) (by simpa using h)
  rw [show n - 1 + 1 = n by omega] at this
  rw [← this]; simp
theorem mem_take {a : Array Keyed} {n : Nat} {x : Keyed} (h : x ∈ a.toList.take n) : ∃ j, j < n ∧ a[j]? = some x := by
  obtain ⟨j, h1, h2⟩ := take_mem (a := a) (i := 0) (k := n) (by rw [List.drop_zero]; exact h)
  exact ⟨j, h1, by rwa [Nat.zero_add] at h2⟩
section
variable {prog : Program} {w : World} {A : Around} {E : Value → Shared → Prop} {s : Shared}
def mergeHi' : Array Keyed → Array Keyed → StateT SortSt Sem (Array Keyed) := sortPriv% PySem.Builtin.mergeHi
theorem wpS_mergeHi {st : SortSt} {a b : Array Keyed} {Q : Array Keyed → SortSt → Prop} (hk : kindOf st = oneType') (aK : ∀ p ∈ a.toList, IsK p) (bK : ∀ p ∈ b.toList, IsK p) (aS : SortedTo a a.size) (bS : SortedTo b b.size)
    (a1 : 1 ≤ a.size) (b1 : 1 ≤ b.size) (hf : K b 0 ≤ K a 0) (hl : ∀ j, j < b.size → K b j ≤ K a (a.size - 1)) (h : ∀ r st', EqS st st' → MgF a.toList b.toList r.toList → Q r st') : wpS (model prog w) A E s (mergeHi' a b) Q st := by
  have aT : ∀ {i : Nat} (hi : i < a.size), IsK a[i] := fun hi => aK _ (by simp)
  have bT : ∀ {i : Nat} (hi : i < b.size), IsK b[i] := fun hi => bK _ (by simp)
  have aE : ∀ {i : Nat} (hi : i < a.size), a[i]? = some a[i] := fun hi => by simp [hi]
  have bE : ∀ {i : Nat} (hi : i < b.size), b[i]? = some b[i] := fun hi => by simp [hi]
  have srt : ∀ (c : Array Keyed), SortedTo c c.size → SrL c.toList := fun c hc => by
    rw [SrL, List.pairwise_iff_getElem]
    intro i j hi hj hij
    have := hc i j (by omega) (by simpa using hj)
    rw [K_get (by simpa using hi), K_get (by simpa using hj)] at this
    simpa using this
  have lt_sz : ∀ {c : Array Keyed} {j : Nat} {x : Keyed}, c[j]? = some x → j < c.size := fun {c j x} e => by
    rcases Nat.lt_or_ge j c.size with q | q
    · exact q
    · rw [Array.getElem?_eq_none q] at e; cases e
  have aD : ∀ {n : Nat} {x : Keyed}, x ∈ a.toList.take n → ∀ hi : n - 1 < a.size, kn x ≤ kn a[n - 1] := fun {n x} hx hi => by
    obtain ⟨j, h1, h3⟩ := mem_take hx
    have := aS j (n - 1) (by omega) hi
    rw [K_get hi, K_at h3] at this
    exact this
  have bD : ∀ {n : Nat} {x : Keyed}, x ∈ b.toList.take n → ∀ hi : n - 1 < b.size, kn x ≤ kn b[n - 1] := fun {n x} hx hi => by
    obtain ⟨j, h1, h3⟩ := mem_take hx
    have := bS j (n - 1) (by omega) hi
    rw [K_get hi, K_at h3] at this
    exact this
  have done : ∀ {out : Array Keyed} {na : Nat} nb, HgI a.toList b.toList (a.toList.take na) (b.toList.take nb) out.toList.reverse → nb = 0 → MgF a.toList b.toList (a.extract 0 na ++ b.extract 0 nb ++ out.reverse).toList := fun {out na} nb m e => by
    subst e
    rw [Array.toList_append, Array.toList_append, ext_to, ext_to, Array.toList_reverse]
    rw [List.take_zero] at m ⊢
    rw [List.append_nil]
    exact m.da
  have done2 : ∀ {out : Array Keyed} {nb : Nat} na, HgI a.toList b.toList (a.toList.take na) (b.toList.take nb) out.toList.reverse → na = 0 → MgF a.toList b.toList (a.extract 0 na ++ b.extract 0 nb ++ out.reverse).toList := fun {out nb} na m e => by
    subst e
    rw [Array.toList_append, Array.toList_append, ext_to, ext_to, Array.toList_reverse]
    rw [List.take_zero] at m ⊢
    rw [List.nil_append]
    exact m.db
  have last : ∀ {out : Array Keyed} {na : Nat} nb, HgI a.toList b.toList (a.toList.take na) (b.toList.take nb) out.toList.reverse → nb = 1 → MgF a.toList b.toList (b.extract 0 nb ++ a.extract 0 na ++ out.reverse).toList := fun {out na} nb m e => by
    rw [Array.toList_append, Array.toList_append, ext_to, ext_to, Array.toList_reverse]
    refine m.first fun y hy z hz => ?_
    obtain ⟨j, h2, h3⟩ := mem_take hy
    obtain ⟨j', h5, h6⟩ := mem_take hz
    have e1 := aS 0 j' (by omega) (lt_sz h6)
    rw [K_at h6] at e1
    have e0 : j = 0 := by omega
    subst e0
    rw [K_at h3] at hf
    omega
  have takeB : ∀ {out : Array Keyed} {na nb : Nat}, HgI a.toList b.toList (a.toList.take na) (b.toList.take nb) out.toList.reverse → 1 ≤ nb → ∀ hb : nb - 1 < b.size, (∀ y ∈ a.toList.take na, kn y ≤ kn b[nb - 1]) → HgI a.toList b.toList (a.toList.take na) (b.toList.take (nb - 1)) (out.push b[nb - 1]).toList.reverse := fun {out na nb} m h0 hb hy => by
    rw [Array.toList_push, List.reverse_append]
    rw [take_at hb h0] at m
    exact HgI.mvb (suf := [b[nb - 1]]) m fun x hx y h => by rw [List.mem_singleton.mp h]; exact hy x hx
  have takeA : ∀ {out : Array Keyed} {na nb : Nat}, HgI a.toList b.toList (a.toList.take na) (b.toList.take nb) out.toList.reverse → 1 ≤ na → ∀ ha : na - 1 < a.size, (∀ y ∈ b.toList.take nb, kn y ≤ kn a[na - 1]) → HgI a.toList b.toList (a.toList.take (na - 1)) (b.toList.take nb) (out.push a[na - 1]).toList.reverse := fun {out na nb} m h0 ha hy => by
    rw [Array.toList_push, List.reverse_append]
    rw [take_at ha h0] at m
    exact HgI.mva (suf := [a[na - 1]]) m fun x hx y h => by rw [List.mem_singleton.mp h]; exact hy x hx
  have runA : ∀ {out : Array Keyed} {na nb : Nat} (k : Nat), k ≤ na → HgI a.toList b.toList (a.toList.take na) (b.toList.take nb) out.toList.reverse → (∀ y ∈ (a.toList.drop k).take (na - k), ∀ x ∈ b.toList.take nb, kn x ≤ kn y) → HgI a.toList b.toList (a.toList.take k) (b.toList.take nb) (out ++ (a.extract k na).reverse).toList.reverse := fun {out na nb} k h0 m hy => by
    rw [Array.toList_append, Array.toList_reverse, ext_mid, List.reverse_append, List.reverse_reverse]
    rw [take_split a h0] at m
    exact m.mva fun x hx y h => hy y h x hx
  have runB : ∀ {out : Array Keyed} {na nb : Nat} (k : Nat), k ≤ nb → HgI a.toList b.toList (a.toList.take na) (b.toList.take nb) out.toList.reverse → (∀ y ∈ (b.toList.drop k).take (nb - k), ∀ x ∈ a.toList.take na, kn x ≤ kn y) → HgI a.toList b.toList (a.toList.take na) (b.toList.take k) (out ++ (b.extract k nb).reverse).toList.reverse := fun {out na nb} k h0 m hy => by
    rw [Array.toList_append, Array.toList_reverse, ext_mid, List.reverse_append, List.reverse_reverse]
    rw [take_split b h0] at m
    exact m.mvb fun x hx y h => hy y h x hx
  have m0 : HgI a.toList b.toList (a.toList.take a.size) (b.toList.take b.size) (#[] : Array Keyed).toList.reverse := by
    rw [List.take_of_length_le (by simp), List.take_of_length_le (by simp)]
    exact ⟨by simp, List.Pairwise.nil, srt a aS, srt b bS, fun x hx y hy => by cases hy⟩
  have mA := takeA m0 a1 (by omega) fun y hy => by
    obtain ⟨j, h1, h3⟩ := mem_take hy
    have := hl j (lt_sz h3)
    rw [K_at h3, K_get (show a.size - 1 < a.size by omega)] at this
    exact this
  have monoA : ∀ {key : Keyed} {n : Nat}, n ≤ a.size → ∀ i j, i ≤ j → j < n → bey false key a 0 j = true → bey false key a 0 i = true := fun {key n} hn i j h1 h2 h3 => by
    unfold bey at h3 ⊢
    rw [if_neg Bool.false_ne_true] at h3 ⊢
    have := aS (0 + i) (0 + j) (by omega) (by omega)
    simp only [Bool.not_eq_true', decide_eq_false_iff_not] at h3 ⊢
    omega
  have monoB : ∀ {key : Keyed} {n : Nat}, n ≤ b.size → ∀ i j, i ≤ j → j < n → bey true key b 0 j = true → bey true key b 0 i = true := fun {key n} hn i j h1 h2 h3 => by
    unfold bey at h3 ⊢
    rw [if_pos rfl] at h3 ⊢
    have := bS (0 + i) (0 + j) (by omega) (by omega)
    simp only [decide_eq_true_eq] at h3 ⊢
    omega
  have preA : ∀ {na nb k : Nat} (hb : nb - 1 < b.size), (∀ i, k ≤ i → i < na → bey false b[nb - 1] a 0 i = false) → ∀ y ∈ (a.toList.drop k).take (na - k), ∀ x ∈ b.toList.take nb, kn x ≤ kn y := fun {na nb k} hb hk y hy x hx => by
    obtain ⟨j, j1, j2⟩ := take_mem hy
    have h3 := hk (k + j) (by omega) (by omega)
    unfold bey at h3
    rw [if_neg Bool.false_ne_true, Nat.zero_add, K_at j2] at h3
    simp only [Bool.not_eq_false', decide_eq_true_eq] at h3
    have := bD hx hb
    omega
  have postA : ∀ {nb k : Nat} (hb : nb - 1 < b.size), (∀ i, i < k → bey false b[nb - 1] a 0 i = true) → ∀ y ∈ a.toList.take k, kn y ≤ kn b[nb - 1] := fun {nb k} hb hk y hy => by
    obtain ⟨j, j1, j3⟩ := mem_take hy
    have h3 := hk j j1
    unfold bey at h3
    rw [if_neg Bool.false_ne_true, Nat.zero_add, K_at j3] at h3
    simp only [Bool.not_eq_true', decide_eq_false_iff_not] at h3
    omega
  have preB : ∀ {na nb k : Nat} (ha : na - 1 < a.size), (∀ i, k ≤ i → i < nb → bey true a[na - 1] b 0 i = false) → ∀ y ∈ (b.toList.drop k).take (nb - k), ∀ x ∈ a.toList.take na, kn x ≤ kn y := fun {na nb k} ha hk y hy x hx => by
    obtain ⟨j, j1, j2⟩ := take_mem hy
    have h3 := hk (k + j) (by omega) (by omega)
    unfold bey at h3
    rw [if_pos rfl, Nat.zero_add, K_at j2] at h3
    simp only [decide_eq_false_iff_not] at h3
    have := aD hx ha
    omega
  have postB : ∀ {na k : Nat} (ha : na - 1 < a.size), (∀ i, i < k → bey true a[na - 1] b 0 i = true) → ∀ y ∈ b.toList.take k, kn y ≤ kn a[na - 1] := fun {na k} ha hk y hy => by
    obtain ⟨j, j1, j3⟩ := mem_take hy
    have h3 := hk j j1
    unfold bey at h3
    rw [if_pos rfl, Nat.zero_add, K_at j3] at h3
    simp only [decide_eq_true_eq] at h3
    omega
  unfold mergeHi'
  refine wpS_bind (wpS_lift (wpAny_rule ⟨rfl, ?_⟩))
  dsimp only
  refine wpS_bind (wpS_elem (aE (show a.size - 1 < a.size by omega)) ?_)
  by_cases q1 : a.size - 1 = 0
  · rw [if_pos (by simpa using q1)]
    exact wpS_pure (h _ st (EqS.refl _) (done2 _ mA q1))
  rw [if_neg (by simpa using q1)]
  by_cases q2 : b.size = 1
  · rw [if_pos (by simpa using q2)]
    exact wpS_pure (h _ st (EqS.refl _) (last _ mA q2))
  rw [if_neg (by simpa using q2)]
  refine wpS_bind (wpS_get ?_)
  refine wpS_bind (wpS_mono (wpS_forRange
    (I := fun x c st' => EqS st st' ∧ ∃ (out : Array Keyed) (na nb mg : Nat), c = (none, na, nb, out, mg) ∧ 1 ≤ na ∧ na ≤ a.size ∧ 2 ≤ nb ∧ nb ≤ b.size ∧ x + (na + nb) ≤ a.size + b.size ∧ HgI a.toList b.toList (a.toList.take na) (b.toList.take nb) out.toList.reverse)
    (Q := fun c st' => EqS st st' ∧ ∃ (r : Array Keyed), ∃ y, c = (some r, y) ∧ MgF a.toList b.toList r.toList) ?step ?fin ?init) ?post)
  case init => exact ⟨EqS.refl _, _, a.size - 1, b.size, _, rfl, by omega, by omega, by omega, by omega, by omega, mA⟩
  case post =>
    rintro c st' ⟨es, r, y, rfl, hr⟩
    exact wpS_pure (h r st' es hr)
  case fin =>
    rintro c st' ⟨es, out, na, nb, mg, rfl, i1, i2, i3, i4, i5, m⟩
    exact absurd i5 (by omega)
  case step =>
    rintro x c st' _ hx ⟨es, out, na, nb, mg, rfl, i1, i2, i3, i4, i5, m⟩
    dsimp only
    refine wpS_bind (wpS_mono (wpS_forRange
      (I := fun x c st'' => st'' = st' ∧ ∃ (out' : Array Keyed) (na' nb' ac bc : Nat), c = (none, na', nb', out', ac, bc) ∧ 1 ≤ na' ∧ na' ≤ a.size ∧ 2 ≤ nb' ∧ nb' ≤ b.size ∧ x + (na' + nb') ≤ na + nb ∧ HgI a.toList b.toList (a.toList.take na') (b.toList.take nb') out'.toList.reverse)
      (Q := fun c st'' => st'' = st' ∧ ((∃ (r : Array Keyed), ∃ y, c = (some r, y) ∧ MgF a.toList b.toList r.toList) ∨ ∃ (out' : Array Keyed) (na' nb' ac bc : Nat), c = (none, na', nb', out', ac, bc) ∧ 1 ≤ na' ∧ na' ≤ a.size ∧ 2 ≤ nb' ∧ nb' ≤ b.size ∧ 1 + (na' + nb') ≤ na + nb ∧ HgI a.toList b.toList (a.toList.take na') (b.toList.take nb') out'.toList.reverse)) ?istep ?ifin ⟨rfl, out, na, nb, 0, 0, rfl, i1, i2, i3, i4, by omega, m⟩) ?ipost)
    case ifin =>
      rintro c st'' ⟨rfl, out', na', nb', ac, bc, rfl, j1, j2, j3, j4, j5, m'⟩
      exact absurd j5 (by omega)
    case istep =>
      rintro y c st'' _ hy ⟨rfl, out', na', nb', ac, bc, rfl, j1, j2, j3, j4, j5, m'⟩
      dsimp only
      have j6 : nb' - 1 < b.size := by omega
      have j7 : na' - 1 < a.size := by omega
      refine wpS_bind (wpS_elem (bE j6) (wpS_bind (wpS_elem (aE j7) (wpS_bind (wpS_ltP (es.k.trans hk) (bT j6) (aT j7) ?_)))))
      dsimp only
      by_cases hw : kn b[nb' - 1] < kn a[na' - 1]
      · rw [if_pos (decide_eq_true hw)]
        refine wpS_bind (wpS_elem (aE j7) ?_)
        have m2 := takeA m' j1 j7 fun z hz => by have := bD hz j6; omega
        by_cases r1 : na' - 1 = 0
        · rw [if_pos (by simpa using r1)]
          exact wpS_pure ⟨rfl, .inl ⟨_, _, rfl, done2 _ m2 r1⟩⟩
        · rw [if_neg (by simpa using r1)]
          by_cases r2 : ac + 1 ≥ mg
          · rw [if_pos r2]
            exact wpS_pure ⟨rfl, .inr ⟨_, _, _, _, _, rfl, by omega, by omega, j3, j4, by omega, m2⟩⟩
          · rw [if_neg r2]
            exact wpS_pure ⟨rfl, _, _, _, _, _, rfl, by omega, by omega, j3, j4, by omega, m2⟩
      · rw [if_neg (by simpa using hw)]
        refine wpS_bind (wpS_elem (bE j6) ?_)
        have m2 := takeB m' (by omega) j6 fun z hz => by have := aD hz j7; omega
        by_cases r1 : nb' - 1 = 1
        · rw [if_pos (by simpa using r1)]
          exact wpS_pure ⟨rfl, .inl ⟨_, _, rfl, last _ m2 r1⟩⟩
        · rw [if_neg (by simpa using r1)]
          by_cases r2 : bc + 1 ≥ mg
          · rw [if_pos r2]
            exact wpS_pure ⟨rfl, .inr ⟨_, _, _, _, _, rfl, j1, j2, by omega, by omega, by omega, m2⟩⟩
          · rw [if_neg r2]
            exact wpS_pure ⟨rfl, _, _, _, _, _, rfl, j1, j2, by omega, by omega, by omega, m2⟩
    case ipost =>
      rintro c st'' ⟨rfl, ⟨r, y, rfl, hr⟩ | ⟨out', na', nb', ac, bc, rfl, j1, j2, j3, j4, j5, m'⟩⟩
      · dsimp only
        exact wpS_pure ⟨es, r, _, rfl, hr⟩
      dsimp only
      refine wpS_bind (wpS_lift (wpAny_rule ⟨rfl, ?_⟩))
      refine wpS_bind (wpS_mono (wpS_forRange
        (I := fun x c st3 => EqS st st3 ∧ ∃ (out2 : Array Keyed) (na2 nb2 mg2 ac2 bc2 : Nat), c = (none, na2, nb2, out2, mg2, ac2, bc2) ∧ 1 ≤ na2 ∧ na2 ≤ a.size ∧ 2 ≤ nb2 ∧ nb2 ≤ b.size ∧ x + (na2 + nb2) + 1 ≤ na + nb ∧ HgI a.toList b.toList (a.toList.take na2) (b.toList.take nb2) out2.toList.reverse)
        (Q := fun c st3 => EqS st st3 ∧ ((∃ (r : Array Keyed), ∃ y, c = (some r, y) ∧ MgF a.toList b.toList r.toList) ∨ ∃ (out2 : Array Keyed) (na2 nb2 mg2 ac2 bc2 : Nat), c = (none, na2, nb2, out2, mg2, ac2, bc2) ∧ 1 ≤ na2 ∧ na2 ≤ a.size ∧ 2 ≤ nb2 ∧ nb2 ≤ b.size ∧ 1 + (na2 + nb2) ≤ na + nb ∧ HgI a.toList b.toList (a.toList.take na2) (b.toList.take nb2) out2.toList.reverse)) ?gstep ?gfin ⟨es, out', na', nb', _, _, _, rfl, j1, j2, j3, j4, by omega, m'⟩) ?gpost)
      case gfin =>
        rintro c st3 ⟨es3, out2, na2, nb2, mg2, ac2, bc2, rfl, l1, l2, l3, l4, l5, m2⟩
        exact absurd l5 (by omega)
      case gpost =>
        rintro c st3 ⟨es3, ⟨r, y, rfl, hr⟩ | ⟨out2, na2, nb2, mg2, ac2, bc2, rfl, l1, l2, l3, l4, l5, m2⟩⟩
        · dsimp only
          exact wpS_pure ⟨es3, r, _, rfl, hr⟩
        · dsimp only
          refine wpS_bind (wpS_minG fun st4 es4 => ?_)
          exact wpS_pure ⟨es3.trans es4, _, _, _, _, rfl, l1, l2, l3, l4, by omega, m2⟩
      case gstep =>
        rintro y c st3 _ hy ⟨es3, out2, na2, nb2, mg2, ac2, bc2, rfl, l1, l2, l3, l4, l5, m2⟩
        dsimp only
        by_cases g0 : mg2 > 1
        · rw [if_pos g0]
          refine wpS_bind (wpS_minG fun st4 es4 => ?_)
          have es5 := es3.trans es4
          have l8 : nb2 - 1 < b.size := by omega
          refine wpS_bind (wpS_elem (bE l8) ?_)
          refine wpS_bind (wpS_gallop (es5.k.trans hk) (bT l8) (fun i hi => ⟨a[0 + i]'(by omega), aE (by omega), aT (by omega)⟩) (by omega) (monoA (by omega)) fun k k1 k2 k3 => ?_)
          dsimp only
          have pre := preA l8 k3
          have post := postA l8 k2
          by_cases k0 : na2 - k > 0
          · rw [if_pos k0]
            have m3 := runA k k1 m2 pre
            by_cases r2 : k = 0
            · rw [if_pos (by simpa using r2)]
              exact wpS_pure ⟨es5, .inl ⟨_, _, rfl, done2 _ m3 r2⟩⟩
            rw [if_neg (by simpa using r2)]
            have i3 : 1 ≤ k := by omega
            have i4 : k - 1 < a.size := by omega
            have post3 := post
            refine wpS_bind (wpS_elem (bE l8) ?_)
            have m4 := takeB m3 (by omega) l8 post3
            by_cases r3 : nb2 - 1 = 1
            · rw [if_pos (by simpa using r3)]
              exact wpS_pure ⟨es5, .inl ⟨_, _, rfl, last _ m4 r3⟩⟩
            rw [if_neg (by simpa using r3)]
            refine wpS_bind (wpS_elem (aE i4) ?_)
            refine wpS_bind (wpS_gallop (es5.k.trans hk) (aT i4) (fun i hi => ⟨b[0 + i]'(by omega), bE (by omega), bT (by omega)⟩) (by omega) (monoB (by omega)) fun q q1 q2 q3 => ?_)
            dsimp only
            have pre4 := preB i4 q3
            have post4 := postB i4 q2
            by_cases q0 : nb2 - 1 - q > 0
            · rw [if_pos q0]
              have m5 := runB q q1 m4 pre4
              by_cases r4 : q = 1
              · rw [if_pos (by simpa using r4)]
                exact wpS_pure ⟨es5, .inl ⟨_, _, rfl, last _ m5 r4⟩⟩
              rw [if_neg (by simpa using r4)]
              by_cases r5 : q = 0
              · rw [if_pos (by simpa using r5)]
                exact wpS_pure ⟨es5, .inl ⟨_, _, rfl, done _ m5 r5⟩⟩
              rw [if_neg (by simpa using r5)]
              have post5 := post4
              refine wpS_bind (wpS_elem (aE i4) ?_)
              have m6 := takeA m5 i3 i4 post5
              split
              · next r5 => exact wpS_pure ⟨es5, .inl ⟨_, _, rfl, done2 _ m6 (beq_iff_eq.mp r5)⟩⟩
              · next r5 =>
                have r6 := mt beq_iff_eq.mpr r5
                split
                · exact wpS_pure ⟨es5, .inr ⟨_, _, _, _, _, _, rfl, by omega, by omega, by omega, by omega, by omega, m6⟩⟩
                · exact wpS_pure ⟨es5, _, _, _, _, _, _, rfl, by omega, by omega, by omega, by omega, by omega, m6⟩
            · rw [if_neg q0]
              have e0 : q = nb2 - 1 := by omega
              rw [e0] at post4
              have m5 := m4
              have post5 := post4
              refine wpS_bind (wpS_elem (aE i4) ?_)
              have m6 := takeA m5 i3 i4 post5
              split
              · next r5 => exact wpS_pure ⟨es5, .inl ⟨_, _, rfl, done2 _ m6 (beq_iff_eq.mp r5)⟩⟩
              · next r5 =>
                have r6 := mt beq_iff_eq.mpr r5
                split
                · exact wpS_pure ⟨es5, .inr ⟨_, _, _, _, _, _, rfl, by omega, by omega, by omega, by omega, by omega, m6⟩⟩
                · exact wpS_pure ⟨es5, _, _, _, _, _, _, rfl, by omega, by omega, by omega, by omega, by omega, m6⟩
          · rw [if_neg k0]
            have e0 : k = na2 := by omega
            rw [e0] at post
            have m3 := m2
            have post3 := post
            have i3 : 1 ≤ na2 := by omega
            have i4 : na2 - 1 < a.size := by omega
            refine wpS_bind (wpS_elem (bE l8) ?_)
            have m4 := takeB m3 (by omega) l8 post3
            by_cases r3 : nb2 - 1 = 1
            · rw [if_pos (by simpa using r3)]
              exact wpS_pure ⟨es5, .inl ⟨_, _, rfl, last _ m4 r3⟩⟩
            rw [if_neg (by simpa using r3)]
            refine wpS_bind (wpS_elem (aE i4) ?_)
            refine wpS_bind (wpS_gallop (es5.k.trans hk) (aT i4) (fun i hi => ⟨b[0 + i]'(by omega), bE (by omega), bT (by omega)⟩) (by omega) (monoB (by omega)) fun q q1 q2 q3 => ?_)
            dsimp only
            have pre4 := preB i4 q3
            have post4 := postB i4 q2
            by_cases q0 : nb2 - 1 - q > 0
            · rw [if_pos q0]
              have m5 := runB q q1 m4 pre4
              by_cases r4 : q = 1
              · rw [if_pos (by simpa using r4)]
                exact wpS_pure ⟨es5, .inl ⟨_, _, rfl, last _ m5 r4⟩⟩
              rw [if_neg (by simpa using r4)]
              by_cases r5 : q = 0
              · rw [if_pos (by simpa using r5)]
                exact wpS_pure ⟨es5, .inl ⟨_, _, rfl, done _ m5 r5⟩⟩
              rw [if_neg (by simpa using r5)]
              have post5 := post4
              refine wpS_bind (wpS_elem (aE i4) ?_)
              have m6 := takeA m5 i3 i4 post5
              split
              · next r5 => exact wpS_pure ⟨es5, .inl ⟨_, _, rfl, done2 _ m6 (beq_iff_eq.mp r5)⟩⟩
              · next r5 =>
                have r6 := mt beq_iff_eq.mpr r5
                split
                · exact wpS_pure ⟨es5, .inr ⟨_, _, _, _, _, _, rfl, by omega, by omega, by omega, by omega, by omega, m6⟩⟩
                · exact wpS_pure ⟨es5, _, _, _, _, _, _, rfl, by omega, by omega, by omega, by omega, by omega, m6⟩
            · rw [if_neg q0]
              have e0 : q = nb2 - 1 := by omega
              rw [e0] at post4
              have m5 := m4
              have post5 := post4
              refine wpS_bind (wpS_elem (aE i4) ?_)
              have m6 := takeA m5 i3 i4 post5
              split
              · next r5 => exact wpS_pure ⟨es5, .inl ⟨_, _, rfl, done2 _ m6 (beq_iff_eq.mp r5)⟩⟩
              · next r5 =>
                have r6 := mt beq_iff_eq.mpr r5
                split
                · exact wpS_pure ⟨es5, .inr ⟨_, _, _, _, _, _, rfl, by omega, by omega, by omega, by omega, by omega, m6⟩⟩
                · exact wpS_pure ⟨es5, _, _, _, _, _, _, rfl, by omega, by omega, by omega, by omega, by omega, m6⟩
        · rw [if_neg g0]
          refine wpS_bind (wpS_minG fun st4 es4 => ?_)
          have es5 := es3.trans es4
          have l8 : nb2 - 1 < b.size := by omega
          refine wpS_bind (wpS_elem (bE l8) ?_)
          refine wpS_bind (wpS_gallop (es5.k.trans hk) (bT l8) (fun i hi => ⟨a[0 + i]'(by omega), aE (by omega), aT (by omega)⟩) (by omega) (monoA (by omega)) fun k k1 k2 k3 => ?_)
          dsimp only
          have pre := preA l8 k3
          have post := postA l8 k2
          by_cases k0 : na2 - k > 0
          · rw [if_pos k0]
            have m3 := runA k k1 m2 pre
            by_cases r2 : k = 0
            · rw [if_pos (by simpa using r2)]
              exact wpS_pure ⟨es5, .inl ⟨_, _, rfl, done2 _ m3 r2⟩⟩
            rw [if_neg (by simpa using r2)]
            have i3 : 1 ≤ k := by omega
            have i4 : k - 1 < a.size := by omega
            have post3 := post
            refine wpS_bind (wpS_elem (bE l8) ?_)
            have m4 := takeB m3 (by omega) l8 post3
            by_cases r3 : nb2 - 1 = 1
            · rw [if_pos (by simpa using r3)]
              exact wpS_pure ⟨es5, .inl ⟨_, _, rfl, last _ m4 r3⟩⟩
            rw [if_neg (by simpa using r3)]
            refine wpS_bind (wpS_elem (aE i4) ?_)
            refine wpS_bind (wpS_gallop (es5.k.trans hk) (aT i4) (fun i hi => ⟨b[0 + i]'(by omega), bE (by omega), bT (by omega)⟩) (by omega) (monoB (by omega)) fun q q1 q2 q3 => ?_)
            dsimp only
            have pre4 := preB i4 q3
            have post4 := postB i4 q2
            by_cases q0 : nb2 - 1 - q > 0
            · rw [if_pos q0]
              have m5 := runB q q1 m4 pre4
              by_cases r4 : q = 1
              · rw [if_pos (by simpa using r4)]
                exact wpS_pure ⟨es5, .inl ⟨_, _, rfl, last _ m5 r4⟩⟩
              rw [if_neg (by simpa using r4)]
              by_cases r5 : q = 0
              · rw [if_pos (by simpa using r5)]
                exact wpS_pure ⟨es5, .inl ⟨_, _, rfl, done _ m5 r5⟩⟩
              rw [if_neg (by simpa using r5)]
              have post5 := post4
              refine wpS_bind (wpS_elem (aE i4) ?_)
              have m6 := takeA m5 i3 i4 post5
              split
              · next r5 => exact wpS_pure ⟨es5, .inl ⟨_, _, rfl, done2 _ m6 (beq_iff_eq.mp r5)⟩⟩
              · next r5 =>
                have r6 := mt beq_iff_eq.mpr r5
                split
                · exact wpS_pure ⟨es5, .inr ⟨_, _, _, _, _, _, rfl, by omega, by omega, by omega, by omega, by omega, m6⟩⟩
                · exact wpS_pure ⟨es5, _, _, _, _, _, _, rfl, by omega, by omega, by omega, by omega, by omega, m6⟩
            · rw [if_neg q0]
              have e0 : q = nb2 - 1 := by omega
              rw [e0] at post4
              have m5 := m4
              have post5 := post4
              refine wpS_bind (wpS_elem (aE i4) ?_)
              have m6 := takeA m5 i3 i4 post5
              split
              · next r5 => exact wpS_pure ⟨es5, .inl ⟨_, _, rfl, done2 _ m6 (beq_iff_eq.mp r5)⟩⟩
              · next r5 =>
                have r6 := mt beq_iff_eq.mpr r5
                split
                · exact wpS_pure ⟨es5, .inr ⟨_, _, _, _, _, _, rfl, by omega, by omega, by omega, by omega, by omega, m6⟩⟩
                · exact wpS_pure ⟨es5, _, _, _, _, _, _, rfl, by omega, by omega, by omega, by omega, by omega, m6⟩
          · rw [if_neg k0]
            have e0 : k = na2 := by omega
            rw [e0] at post
            have m3 := m2
            have post3 := post
            have i3 : 1 ≤ na2 := by omega
            have i4 : na2 - 1 < a.size := by omega
            refine wpS_bind (wpS_elem (bE l8) ?_)
            have m4 := takeB m3 (by omega) l8 post3
            by_cases r3 : nb2 - 1 = 1
            · rw [if_pos (by simpa using r3)]
              exact wpS_pure ⟨es5, .inl ⟨_, _, rfl, last _ m4 r3⟩⟩
            rw [if_neg (by simpa using r3)]
            refine wpS_bind (wpS_elem (aE i4) ?_)
            refine wpS_bind (wpS_gallop (es5.k.trans hk) (aT i4) (fun i hi => ⟨b[0 + i]'(by omega), bE (by omega), bT (by omega)⟩) (by omega) (monoB (by omega)) fun q q1 q2 q3 => ?_)
            dsimp only
            have pre4 := preB i4 q3
            have post4 := postB i4 q2
            by_cases q0 : nb2 - 1 - q > 0
            · rw [if_pos q0]
              have m5 := runB q q1 m4 pre4
              by_cases r4 : q = 1
              · rw [if_pos (by simpa using r4)]
                exact wpS_pure ⟨es5, .inl ⟨_, _, rfl, last _ m5 r4⟩⟩
              rw [if_neg (by simpa using r4)]
              by_cases r5 : q = 0
              · rw [if_pos (by simpa using r5)]
                exact wpS_pure ⟨es5, .inl ⟨_, _, rfl, done _ m5 r5⟩⟩
              rw [if_neg (by simpa using r5)]
              have post5 := post4
              refine wpS_bind (wpS_elem (aE i4) ?_)
              have m6 := takeA m5 i3 i4 post5
              split
              · next r5 => exact wpS_pure ⟨es5, .inl ⟨_, _, rfl, done2 _ m6 (beq_iff_eq.mp r5)⟩⟩
              · next r5 =>
                have r6 := mt beq_iff_eq.mpr r5
                split
                · exact wpS_pure ⟨es5, .inr ⟨_, _, _, _, _, _, rfl, by omega, by omega, by omega, by omega, by omega, m6⟩⟩
                · exact wpS_pure ⟨es5, _, _, _, _, _, _, rfl, by omega, by omega, by omega, by omega, by omega, m6⟩
            · rw [if_neg q0]
              have e0 : q = nb2 - 1 := by omega
              rw [e0] at post4
              have m5 := m4
              have post5 := post4
              refine wpS_bind (wpS_elem (aE i4) ?_)
              have m6 := takeA m5 i3 i4 post5
              split
              · next r5 => exact wpS_pure ⟨es5, .inl ⟨_, _, rfl, done2 _ m6 (beq_iff_eq.mp r5)⟩⟩
              · next r5 =>
                have r6 := mt beq_iff_eq.mpr r5
                split
                · exact wpS_pure ⟨es5, .inr ⟨_, _, _, _, _, _, rfl, by omega, by omega, by omega, by omega, by omega, m6⟩⟩
                · exact wpS_pure ⟨es5, _, _, _, _, _, _, rfl, by omega, by omega, by omega, by omega, by omega, m6⟩
end
end
end Bd
namespace Bd
open PySem PyProof.Rows
noncomputable section
def Seg (xs : Array Keyed) (lo hi : Nat) : Prop := ∀ i j, lo ≤ i → i ≤ j → j < hi → K xs i ≤ K xs j
def NI (xs : Array Keyed) (lo hi : Nat) : Prop := ∀ i j, lo ≤ i → i ≤ j → j < hi → K xs j ≤ K xs i
theorem NI.same {xs ys : Array Keyed} {lo hi : Nat} (h : NI xs lo hi) (e : ∀ i, K ys i = K xs i) : NI ys lo hi := fun i j a b c => by rw [e, e]; exact h i j a b c
theorem Seg.same {xs ys : Array Keyed} {lo hi : Nat} (h : Seg xs lo hi) (e : ∀ i, lo ≤ i → i < hi → K ys i = K xs i) : Seg ys lo hi := fun i j a b c => by rw [e i a (by omega), e j (by omega) c]; exact h i j a b c
theorem SB.size {a₀ : Array Keyed} {st : SortSt} (h : SB a₀ st) : (arrOf st).size = a₀.size := h.perm.size_eq
theorem SB.set {a₀ : Array Keyed} {st : SortSt} (h : SB a₀ st) {xs : Array Keyed} (hp : xs.Perm (arrOf st)) : SB a₀ (setArr st xs) := ⟨hp.trans h.perm, h.kind, h.failed⟩
structure FB (a₀ : Array Keyed) (st : SortSt) (lo : Nat) (st' : SortSt) : Prop where
  b : SB a₀ st'
  p : pendingOf st' = pendingOf st
  k : ∀ i, i < lo → K (arrOf st') i = K (arrOf st) i
theorem FB.refl {a₀ : Array Keyed} {st : SortSt} (h : SB a₀ st) (lo : Nat) : FB a₀ st lo st := ⟨h, rfl, fun _ _ => rfl⟩
theorem FB.same {a₀ : Array Keyed} {st st' : SortSt} {lo : Nat} (h : FB a₀ st lo st') {xs : Array Keyed} (hp : xs.Perm (arrOf st')) (e : ∀ i, K xs i = K (arrOf st') i) : FB a₀ st lo (setArr st' xs) :=
  ⟨h.b.set hp, h.p, fun i hi => (e i).trans (h.k i hi)⟩
theorem FB.rev {a₀ : Array Keyed} {st st' : SortSt} {lo m : Nat} (h : FB a₀ st lo st') (hz : lo + m ≤ a₀.size) : FB a₀ st lo (setArr st' (PyProof.Rows.mirror (arrOf st') lo (lo + m) ((lo + m - lo) / 2))) :=
  ⟨h.b.set (mirror_perm _ _ _ _), h.p, fun i hi => by
    show K (PyProof.Rows.mirror (arrOf st') lo (lo + m) ((lo + m - lo) / 2)) i = _
    rw [K_mirror (by rw [h.b.size]; exact hz), if_neg (by omega)]
    exact h.k i hi⟩
theorem NI.rev {a₀ : Array Keyed} {st st' : SortSt} {lo m nrem : Nat} (h : FB a₀ st lo st') (hn : lo + nrem ≤ a₀.size) (hs : NI (arrOf st') lo (lo + m)) (hm : m ≤ nrem) : Seg (arrOf (setArr st' (PyProof.Rows.mirror (arrOf st') lo (lo + m) ((lo + m - lo) / 2)))) lo (lo + m) := by
  intro i j h1 h2 h3
  show K (PyProof.Rows.mirror (arrOf st') lo (lo + m) ((lo + m - lo) / 2)) i ≤ K (PyProof.Rows.mirror (arrOf st') lo (lo + m) ((lo + m - lo) / 2)) j
  have hz : lo + m ≤ (arrOf st').size := by rw [h.b.size]; omega
  rw [K_mirror hz, K_mirror hz, if_pos (by omega), if_pos (by omega)]
  exact hs _ _ (by omega) (by omega) (by omega)
section
variable {prog : Program} {w : World} {A : Around} {E : Value → Shared → Prop} {s : Shared} {a₀ : Array Keyed} {h0 : IntKeys a₀}
include h0
theorem SB.at {st : SortSt} (h : SB a₀ st) {i : Nat} (hi : i < a₀.size) : ∃ t q, (arrOf st)[i]? = some (.int (K (arrOf st) i) t, q) := by
  have hi' : i < (arrOf st).size := by rw [h.size]; exact hi
  have hm : (arrOf st)[i] ∈ a₀.toList := (Array.perm_iff_toList_perm.mp h.perm).mem_iff.mp (by simp)
  obtain ⟨n, t, hn⟩ := h0 _ hm
  have e : (arrOf st)[i]? = some (arrOf st)[i] := by simp [hi']
  refine ⟨t, (arrOf st)[i].2, ?_⟩
  rw [e, K_at e]
  unfold kn
  rw [hn]
  exact congrArg some (Prod.ext hn rfl)
theorem wpS_ltB {st : SortSt} {i j : Nat} {Q : Option Bool → SortSt → Prop} (hB : SB a₀ st) (hi : i < a₀.size) (hj : j < a₀.size) (h : Q (some (decide (K (arrOf st) i < K (arrOf st) j))) st) : wpS (model prog w) A E s (ltAt' i j) Q st := by
  obtain ⟨t, p, e1⟩ := SB.at (h0 := h0) hB hi
  obtain ⟨u, q, e2⟩ := SB.at (h0 := h0) hB hj
  exact wpS_ltAt hB.kind e1 e2 h
theorem wpS_asc {st : SortSt} {lo a nrem : Nat} {f : Nat → Option (Option Nat) × Nat → StateT SortSt Sem (ForInStep (Option (Option Nat) × Nat))} {Q : Option (Option Nat) × Nat → SortSt → Prop} (hn : lo + nrem ≤ a₀.size) (ha : 1 ≤ a) (han : a ≤ nrem) (hB : SB a₀ st) (hs : Seg (arrOf st) lo (lo + a))
    (hf : ∀ x n, f x (none, n) = (do
      let r ← ltAt' (lo + n) (lo + n - 1)
      match r with
      | some smaller => if smaller = true then pure (ForInStep.done (none, n)) else pure (ForInStep.yield (none, n + 1))
      | _ => pure (ForInStep.done (some none, n))))
    (h : ∀ n, a ≤ n → n ≤ nrem → Seg (arrOf st) lo (lo + n) → (n = nrem ∨ K (arrOf st) (lo + n) < K (arrOf st) (lo + n - 1)) → Q (none, n) st) :
    wpS (model prog w) A E s (forIn [a:nrem] ((none, a) : Option (Option Nat) × Nat) f) Q st := by
  refine wpS_forRange (I := fun x c st' => st' = st ∧ c = (none, x) ∧ Seg (arrOf st) lo (lo + x)) ?step ?fin ⟨rfl, rfl, hs⟩
  case fin =>
    rintro c st' ⟨rfl, rfl, hs'⟩
    rw [show max a nrem = nrem by omega] at hs' ⊢
    exact h nrem han (Nat.le_refl _) hs' (.inl rfl)
  case step =>
    rintro x c st' hax hxn ⟨rfl, rfl, hs'⟩
    rw [hf]
    refine wpS_bind (wpS_ltB (h0 := h0) hB (by omega) (by omega) ?_)
    dsimp only
    by_cases hl : K (arrOf st') (lo + x) < K (arrOf st') (lo + x - 1)
    · rw [if_pos (decide_eq_true hl)]
      exact wpS_pure (h x hax (by omega) hs' (.inr hl))
    · rw [if_neg (by simpa using hl)]
      refine wpS_pure ⟨rfl, rfl, fun i j h1 h2 h3 => ?_⟩
      by_cases hj : j < lo + x
      · exact hs' i j h1 h2 hj
      · have ej : j = lo + x := by omega
        subst ej
        by_cases hi : i = lo + x
        · rw [hi]; exact Int.le_refl _
        · exact Int.le_trans (hs' i (lo + x - 1) h1 (by omega) (by omega)) (Int.not_lt.mp hl)
theorem wpS_desc {st st₁ : SortSt} {lo n nrem : Nat} {f : Nat → Option (Option Nat) × Nat × Nat → StateT SortSt Sem (ForInStep (Option (Option Nat) × Nat × Nat))} {Q : Option (Option Nat) × Nat × Nat → SortSt → Prop} (hn : lo + nrem ≤ a₀.size) (h1 : 1 ≤ n) (hnn : n ≤ nrem) (hF : FB a₀ st lo st₁)
    (hs : NI (arrOf st₁) lo (lo + n))
    (hf : ∀ x n neq, f x (none, n, neq) = (do
      let r ← ltAt' (lo + n) (lo + n - 1)
      match r with
      | some smaller =>
        if smaller = true then
          if neq > 0 then do
            reverseSlice' (lo + n - (neq + 1)) (lo + n)
            pure (ForInStep.yield (none, n + 1, 0))
          else pure (ForInStep.yield (none, n + 1, 0))
        else do
          let r ← ltAt' (lo + n - 1) (lo + n)
          match r with
          | some larger => if larger = true then pure (ForInStep.done (none, n, neq)) else pure (ForInStep.yield (none, n + 1, neq + 1))
          | _ => pure (ForInStep.done (some none, n, neq))
      | _ => pure (ForInStep.done (some none, n, neq))))
    (h : ∀ m neq st', FB a₀ st lo st' → n ≤ m → m ≤ nrem → NI (arrOf st') lo (lo + m) → neq + 1 ≤ m → (∀ i, lo + m - (neq + 1) ≤ i → i < lo + m → K (arrOf st') i = K (arrOf st') (lo + m - 1)) → Q (none, m, neq) st') :
    wpS (model prog w) A E s (forIn [n:nrem] ((none, n, 0) : Option (Option Nat) × Nat × Nat) f) Q st₁ := by
  refine wpS_forRange (I := fun x c st' => ∃ neq, c = (none, x, neq) ∧ FB a₀ st lo st' ∧ NI (arrOf st') lo (lo + x) ∧ neq + 1 ≤ x ∧
      ∀ i, lo + x - (neq + 1) ≤ i → i < lo + x → K (arrOf st') i = K (arrOf st') (lo + x - 1)) ?step ?fin ⟨0, rfl, hF, hs, by omega, fun i h1 h2 => by rw [show i = lo + n - 1 by omega]⟩
  case fin =>
    rintro c st' ⟨neq, rfl, hB', hs', hq, he⟩
    rw [show max n nrem = nrem by omega] at hs' hq he ⊢
    exact h nrem neq st' hB' hnn (Nat.le_refl _) hs' hq he
  case step =>
    rintro x c st' hax hxn ⟨neq, rfl, hB', hs', hq, he⟩
    rw [hf]
    have hz : lo + x ≤ (arrOf st').size := by rw [hB'.b.size]; omega
    refine wpS_bind (wpS_ltB (h0 := h0) hB'.b (by omega) (by omega) ?_)
    dsimp only
    by_cases hl : K (arrOf st') (lo + x) < K (arrOf st') (lo + x - 1)
    · rw [if_pos (decide_eq_true hl)]
      have up : ∀ xs : Array Keyed, (∀ k, K xs k = K (arrOf st') k) → NI xs lo (lo + (x + 1)) := fun xs hk i j h1 h2 h3 => by
        rw [hk, hk]
        by_cases hj : j < lo + x
        · exact hs' i j h1 h2 hj
        · have ej : j = lo + x := by omega
          subst ej
          by_cases hi : i = lo + x
          · rw [hi]; exact Int.le_refl _
          · exact Int.le_trans (Int.le_of_lt hl) (hs' i (lo + x - 1) h1 (by omega) (by omega))
      by_cases hq0 : neq > 0
      · rw [if_pos hq0]
        refine wpS_bind (wpS_reverse (wpS_pure ⟨0, rfl, hB'.same (mirror_perm _ _ _ _) (K_mirror_equal hz he), up _ (K_mirror_equal hz he), by omega, fun i h1 h2 => by rw [show i = lo + (x + 1) - 1 by omega]⟩))
      · rw [if_neg hq0]
        exact wpS_pure ⟨0, rfl, hB', up _ (fun _ => rfl), by omega, fun i h1 h2 => by rw [show i = lo + (x + 1) - 1 by omega]⟩
    · rw [if_neg (by simpa using hl)]
      refine wpS_bind (wpS_ltB (h0 := h0) hB'.b (by omega) (by omega) ?_)
      dsimp only
      by_cases hg : K (arrOf st') (lo + x - 1) < K (arrOf st') (lo + x)
      · rw [if_pos (decide_eq_true hg)]
        exact wpS_pure (h x neq st' hB' hax (by omega) hs' hq he)
      · rw [if_neg (by simpa using hg)]
        have ex : K (arrOf st') (lo + x) = K (arrOf st') (lo + x - 1) := by omega
        refine wpS_pure ⟨neq + 1, rfl, hB', fun i j h1 h2 h3 => ?_, by omega, fun i h1 h2 => ?_⟩
        · by_cases hj : j < lo + x
          · exact hs' i j h1 h2 hj
          · have ej : j = lo + x := by omega
            subst ej
            by_cases hi : i = lo + x
            · rw [hi]; exact Int.le_refl _
            · rw [ex]; exact hs' i (lo + x - 1) h1 (by omega) (by omega)
        · rw [show lo + (x + 1) - 1 = lo + x by omega]
          by_cases hi : i = lo + x
          · rw [hi]
          · rw [ex]; exact he i (by omega) (by omega)
theorem wpS_countL {st : SortSt} {lo nrem : Nat} {Q : Option Nat → SortSt → Prop} (hn : lo + nrem ≤ a₀.size) (h1 : 1 ≤ nrem) (hB : SB a₀ st)
    (h : ∀ m st', FB a₀ st lo st' → 1 ≤ m → m ≤ nrem → Seg (arrOf st') lo (lo + m) → Q (some m) st') : wpS (model prog w) A E s (countRun' lo nrem) Q st := by
  have wpS_asc := @wpS_asc prog w A E s a₀ h0
  have wpS_desc := @wpS_desc prog w A E s a₀ h0
  unfold countRun'
  refine wpS_bind (wpS_asc hn (Nat.le_refl 1) h1 hB (fun i j h1 h2 h3 => by rw [show i = j by omega]; exact Int.le_refl _) (fun _ _ => rfl) fun n n1 n2 n3 n4 => ?_)
  dsimp only
  by_cases e : n = nrem
  · rw [if_pos (by simpa using e)]
    exact wpS_pure (h n st (FB.refl hB lo) n1 n2 n3)
  rw [if_neg (by simpa using e)]
  have hl := n4.resolve_left e
  by_cases hg : n > 1
  · rw [if_pos hg]
    refine wpS_bind (wpS_ltB (h0 := h0) hB (by omega) (by omega) ?_)
    dsimp only
    by_cases hr : K (arrOf st) lo < K (arrOf st) (lo + n - 1)
    · rw [if_pos (decide_eq_true hr)]
      exact wpS_pure (h n st (FB.refl hB lo) n1 n2 n3)
    · rw [if_neg (by simpa using hr)]
      have hz : lo + n ≤ (arrOf st).size := by rw [hB.size]; omega
      have all : ∀ k, lo ≤ k → k < lo + n → K (arrOf st) k = K (arrOf st) (lo + n - 1) := fun k k1 k2 => by
        have a1 := n3 lo k (by omega) k1 k2
        have a2 := n3 k (lo + n - 1) k1 (by omega) (by omega)
        omega
      refine wpS_bind (wpS_reverse ?_)
      have FA := (FB.refl hB lo).same (mirror_perm (arrOf st) lo (lo + n) ((lo + n - lo) / 2)) (K_mirror_equal hz all)
      have NA : NI (PyProof.Rows.mirror (arrOf st) lo (lo + n) ((lo + n - lo) / 2)) lo (lo + (n + 1)) := fun i j h1 h2 h3 => by
        rw [K_mirror_equal hz all, K_mirror_equal hz all]
        by_cases hj : j < lo + n
        · rw [all i h1 (by omega), all j (by omega) hj]; exact Int.le_refl _
        · have ej : j = lo + n := by omega
          subst ej
          by_cases hi : i = lo + n
          · rw [hi]; exact Int.le_refl _
          · rw [all i h1 (by omega)]; exact Int.le_of_lt hl
      refine wpS_bind (wpS_lift (wpAny_rule ⟨rfl, ?_⟩))
      refine wpS_bind (wpS_desc hn (by omega) (by omega) FA NA (fun _ _ _ => rfl) fun m neq st' FC m1 m2 NC m4 m5 => ?_)
      dsimp only
      by_cases hneq : neq > 0
      · rw [if_pos hneq]
        refine wpS_bind (wpS_reverse ?_)
        have hz : lo + m ≤ (arrOf st').size := by rw [FC.b.size]; omega
        replace NC : NI (arrOf (setArr st' (PyProof.Rows.mirror (arrOf st') (lo + m - (neq + 1)) (lo + m) ((lo + m - (lo + m - (neq + 1))) / 2)))) lo (lo + m) := NI.same NC fun i => K_mirror_equal hz (fun k k1 k2 => m5 k k1 k2) i
        replace FC := FC.same (mirror_perm (arrOf st') (lo + m - (neq + 1)) (lo + m) ((lo + m - (lo + m - (neq + 1))) / 2)) fun i => K_mirror_equal hz (fun k k1 k2 => m5 k k1 k2) i
        refine wpS_bind (wpS_reverse ?_)
        refine wpS_bind (wpS_asc hn (by omega) (by omega) (FC.rev (by omega)).b (NI.rev FC hn NC (by omega)) (fun _ _ => rfl) fun k k1 k2 k3 _ => ?_)
        dsimp only
        exact wpS_pure (h k _ (FC.rev (by omega)) (by omega) k2 k3)
      · rw [if_neg hneq]
        refine wpS_bind (wpS_reverse ?_)
        refine wpS_bind (wpS_asc hn (by omega) (by omega) (FC.rev (by omega)).b (NI.rev FC hn NC (by omega)) (fun _ _ => rfl) fun k k1 k2 k3 _ => ?_)
        dsimp only
        exact wpS_pure (h k _ (FC.rev (by omega)) (by omega) k2 k3)
  · rw [if_neg hg]
    have e1 : n = 1 := by omega
    subst e1
    have FA := FB.refl hB lo
    have NA : NI (arrOf st) lo (lo + (1 + 1)) := fun i j h1 h2 h3 => by
      by_cases hi : i = j
      · rw [hi]; exact Int.le_refl _
      · have e1 : i = lo := by omega
        have e2 : j = lo + 1 := by omega
        rw [e1, e2]; exact Int.le_of_lt hl
    refine wpS_bind (wpS_lift (wpAny_rule ⟨rfl, ?_⟩))
    refine wpS_bind (wpS_desc hn (by omega) (by omega) FA NA (fun _ _ _ => rfl) fun m neq st' FC m1 m2 NC m4 m5 => ?_)
    dsimp only
    by_cases hneq : neq > 0
    · rw [if_pos hneq]
      refine wpS_bind (wpS_reverse ?_)
      have hz : lo + m ≤ (arrOf st').size := by rw [FC.b.size]; omega
      replace NC : NI (arrOf (setArr st' (PyProof.Rows.mirror (arrOf st') (lo + m - (neq + 1)) (lo + m) ((lo + m - (lo + m - (neq + 1))) / 2)))) lo (lo + m) := NI.same NC fun i => K_mirror_equal hz (fun k k1 k2 => m5 k k1 k2) i
      replace FC := FC.same (mirror_perm (arrOf st') (lo + m - (neq + 1)) (lo + m) ((lo + m - (lo + m - (neq + 1))) / 2)) fun i => K_mirror_equal hz (fun k k1 k2 => m5 k k1 k2) i
      refine wpS_bind (wpS_reverse ?_)
      refine wpS_bind (wpS_asc hn (by omega) (by omega) (FC.rev (by omega)).b (NI.rev FC hn NC (by omega)) (fun _ _ => rfl) fun k k1 k2 k3 _ => ?_)
      dsimp only
      exact wpS_pure (h k _ (FC.rev (by omega)) (by omega) k2 k3)
    · rw [if_neg hneq]
      refine wpS_bind (wpS_reverse ?_)
      refine wpS_bind (wpS_asc hn (by omega) (by omega) (FC.rev (by omega)).b (NI.rev FC hn NC (by omega)) (fun _ _ => rfl) fun k k1 k2 k3 _ => ?_)
      dsimp only
      exact wpS_pure (h k _ (FC.rev (by omega)) (by omega) k2 k3)
theorem wpS_binL {st : SortSt} {lo n ok : Nat} {Q : Bool → SortSt → Prop} (hn : lo + n ≤ a₀.size) (hok : ok ≤ n) (hB : SB a₀ st) (hs : Seg (arrOf st) lo (lo + ok))
    (h : ∀ st', FB a₀ st lo st' → Seg (arrOf st') lo (lo + n) → Q true st') : wpS (model prog w) A E s (binarySort' lo n ok) Q st := by
  unfold binarySort'
  refine wpS_bind (wpS_mono (wpS_forRange (I := fun k c st' => c = (none, ()) ∧ FB a₀ st lo st' ∧ Seg (arrOf st') lo (lo + min k n))
    (Q := fun c st' => c = (none, ()) ∧ FB a₀ st lo st' ∧ Seg (arrOf st') lo (lo + n)) ?step ?fin ?init) ?post)
  case post =>
    rintro c st' ⟨rfl, hB', hs'⟩
    exact wpS_pure (h st' hB' hs')
  case init =>
    refine ⟨rfl, FB.refl hB lo, fun i j h1 h2 h3 => ?_⟩
    by_cases e : ok = 0
    · rw [show i = j by omega]; exact Int.le_refl _
    · exact hs i j h1 h2 (by omega)
  case fin =>
    rintro c st' ⟨hc, hB', hs'⟩
    refine ⟨hc, hB', ?_⟩
    rwa [show min (max (max ok 1) n) n = n by omega] at hs'
  case step =>
    rintro k c st' hak hkn ⟨rfl, hB', hs'⟩
    rw [show min k n = k by omega] at hs'
    dsimp only
    refine wpS_bind (wpS_mono (wpS_forRange (I := fun x c st'' => st'' = st' ∧ ∃ l r, c = (none, l, r) ∧ l ≤ r ∧ r ≤ k ∧ r - l ≤ k - x ∧
        (∀ i, lo ≤ i → i < lo + l → K (arrOf st') i ≤ K (arrOf st') (lo + k)) ∧ (∀ i, lo + r ≤ i → i < lo + k → K (arrOf st') (lo + k) < K (arrOf st') i))
      (Q := fun c st'' => st'' = st' ∧ ∃ l r, c = (none, l, r) ∧ l ≤ k ∧
        (∀ i, lo ≤ i → i < lo + l → K (arrOf st') i ≤ K (arrOf st') (lo + k)) ∧ (∀ i, lo + l ≤ i → i < lo + k → K (arrOf st') (lo + k) < K (arrOf st') i)) ?istep ?ifin ?iinit) ?ipost)
    case iinit => exact ⟨rfl, 0, k, rfl, by omega, by omega, by omega, fun i hi _ => by omega, fun i h1 h2 => by omega⟩
    case ifin =>
      rintro c st'' ⟨rfl, l, r, rfl, a1, a2, a3, a4, a5⟩
      have : l = r := by omega
      subst this
      exact ⟨rfl, l, l, rfl, a2, a4, a5⟩
    case istep =>
      rintro x c st'' _ hxk ⟨rfl, l, r, rfl, a1, a2, a3, a4, a5⟩
      dsimp only
      by_cases hge : l ≥ r
      · rw [if_pos hge]
        have : l = r := by omega
        subst this
        exact wpS_pure ⟨rfl, l, l, rfl, a2, a4, a5⟩
      · rw [if_neg hge]
        refine wpS_bind (wpS_ltB (h0 := h0) hB'.b (by omega) (by omega) ?_)
        dsimp only
        by_cases hl : K (arrOf st'') (lo + k) < K (arrOf st'') (lo + (l + r) / 2)
        · rw [if_pos (decide_eq_true hl)]
          refine wpS_pure ⟨rfl, l, (l + r) / 2, rfl, by omega, by omega, by omega, a4, fun i h1 h2 => ?_⟩
          exact Int.lt_of_lt_of_le hl (hs' _ _ (by omega) h1 h2)
        · rw [if_neg (by simpa using hl)]
          refine wpS_pure ⟨rfl, (l + r) / 2 + 1, r, rfl, by omega, by omega, by omega, fun i h1 h2 => ?_, a5⟩
          exact Int.le_trans (hs' i (lo + (l + r) / 2) h1 (by omega) (by omega)) (Int.not_lt.mp hl)
    case ipost =>
      rintro c st'' ⟨rfl, l, r, rfl, a1, a2, a3⟩
      show wpS _ _ _ _ (do moveDown' (lo + k) (lo + l); pure (ForInStep.yield (none, ()))) _ _
      rw [moveDown'_eq]
      have hks : lo + k < (arrOf st'').size := by rw [hB'.b.size]; omega
      have hd : lo + k - (lo + l) ≤ lo + k := by omega
      refine wpS_bind (wpS_modify (wpS_pure ⟨rfl, ⟨hB'.b.set (bubble_perm _ _ _), hB'.p, fun i hi => ?_⟩, ?_⟩))
      · show K (bubble (arrOf st'') (lo + k) (lo + k - (lo + l))) i = _
        rw [K_bubble hks hd, if_neg (by omega), if_neg (by omega)]
        exact hB'.k i hi
      · rw [show min (k + 1) n = k + 1 by omega]
        intro i j h1 h2 h3
        show K (bubble (arrOf st'') (lo + k) (lo + k - (lo + l))) i ≤ K (bubble (arrOf st'') (lo + k) (lo + k - (lo + l))) j
        rw [K_bubble hks hd, K_bubble hks hd, show lo + k - (lo + k - (lo + l)) = lo + l by omega]
        repeat' split
        all_goals first
          | (exfalso; omega)
          | exact Int.le_refl _
          | exact a2 _ (by omega) (by omega)
          | exact Int.le_of_lt (a3 _ (by omega) (by omega))
          | exact hs' _ _ (by omega) (by omega) (by omega)
end
end
end Bd
namespace Bd
open PySem PyProof.Rows
noncomputable section
def wbk (s : Nat) (l : List Keyed) (xs : Array Keyed) : Array Keyed := l.zipIdx.foldl (fun a p => a.setIfInBounds (s + p.2) p.1) xs
theorem foldl_sets (s : Nat) : ∀ (l : List Keyed) (o : Nat) (xs : Array Keyed), ((l.zipIdx o).foldl (fun a p => a.setIfInBounds (s + p.2) p.1) xs).size = xs.size ∧ ∀ k, ((l.zipIdx o).foldl (fun a p => a.setIfInBounds (s + p.2) p.1) xs)[k]? = if s + o ≤ k ∧ k < s + o + l.length ∧ k < xs.size then l[k - (s + o)]? else xs[k]?
  | [], o, xs => ⟨rfl, fun k => by rw [List.zipIdx_nil, List.foldl_nil, if_neg (by simp; omega)]⟩
  | x :: l, o, xs => by
    rw [List.zipIdx_cons, List.foldl_cons]
    obtain ⟨h1, h2⟩ := foldl_sets s l (o + 1) (xs.setIfInBounds (s + o) x)
    refine ⟨by rw [h1, Array.size_setIfInBounds], fun k => ?_⟩
    rw [h2, Array.size_setIfInBounds, Array.getElem?_setIfInBounds]
    by_cases e : s + o = k
    · subst e
      rw [if_neg (by omega), if_pos rfl]
      by_cases hs : s + o < xs.size
      · rw [if_pos hs, if_pos ⟨by omega, by simp, hs⟩]; simp
      · rw [if_neg hs, if_neg (by omega), Array.getElem?_eq_none (by omega)]
    · rw [if_neg e]
      by_cases c : s + (o + 1) ≤ k ∧ k < s + (o + 1) + l.length ∧ k < xs.size
      · rw [if_pos c, if_pos ⟨by omega, by rw [List.length_cons]; omega, c.2.2⟩, show k - (s + o) = (k - (s + (o + 1))) + 1 by omega, List.getElem?_cons_succ]
      · rw [if_neg c, if_neg (by rw [List.length_cons]; omega)]
theorem wbk_at (s : Nat) (l : List Keyed) (xs : Array Keyed) (h : s + l.length ≤ xs.size) (k : Nat) : (wbk s l xs)[k]? = if s ≤ k ∧ k < s + l.length then l[k - s]? else xs[k]? := by
  have := (foldl_sets s l 0 xs).2 k
  rw [Nat.add_zero] at this
  rw [wbk, this]
  by_cases c : s ≤ k ∧ k < s + l.length
  · rw [if_pos c, if_pos ⟨c.1, c.2, by omega⟩]
  · rw [if_neg c, if_neg (by omega)]
theorem wbk_list (s : Nat) (l : List Keyed) (xs : Array Keyed) (h : s + l.length ≤ xs.size) : (wbk s l xs).toList = xs.toList.take s ++ (l ++ xs.toList.drop (s + l.length)) := by
  refine List.ext_getElem? fun k => ?_
  have e := wbk_at s l xs h k
  rw [Array.getElem?_toList, e]
  have hl : (xs.toList.take s).length = s := by rw [List.length_take]; simp; omega
  by_cases c1 : k < s
  · rw [if_neg (by omega), List.getElem?_append_left (by omega), List.getElem?_take, if_pos c1]; simp
  · rw [List.getElem?_append_right (by omega), hl]
    by_cases c2 : k < s + l.length
    · rw [if_pos ⟨by omega, c2⟩, List.getElem?_append_left (by omega)]
    · rw [if_neg (by omega), List.getElem?_append_right (by omega), List.getElem?_drop]
      rw [show s + l.length + (k - s - l.length) = k by omega]; simp
theorem wbk_perm (s : Nat) (l : List Keyed) (xs : Array Keyed) (h : s + l.length ≤ xs.size) (hp : l.Perm ((xs.toList.drop s).take l.length)) : (wbk s l xs).Perm xs := by
  rw [Array.perm_iff_toList_perm, wbk_list s l xs h]
  have e : xs.toList = xs.toList.take s ++ ((xs.toList.drop s).take l.length ++ xs.toList.drop (s + l.length)) := by
    rw [← List.drop_drop, List.take_append_drop, List.take_append_drop]
  conv => rhs; rw [e]
  exact List.Perm.append_left _ (hp.append_right _)
def Tile (xs : Array Keyed) : Nat → List (Nat × Nat × Nat) → Nat → Prop
  | s, [], e => s = e
  | s, p :: r, e => p.1 = s ∧ 1 ≤ p.2.1 ∧ Seg xs s (s + p.2.1) ∧ Tile xs (s + p.2.1) r e
theorem Tile.le {xs : Array Keyed} : ∀ {r : List (Nat × Nat × Nat)} {s e : Nat}, Tile xs s r e → s + r.length ≤ e
  | [], s, e, h => by have : s = e := h; simp; omega
  | p :: r, s, e, h => by
    have := Tile.le h.2.2.2
    have := h.2.1
    rw [List.length_cons]; omega
theorem Tile.same {xs ys : Array Keyed} : ∀ {r : List (Nat × Nat × Nat)} {s e : Nat}, Tile xs s r e → (∀ i, s ≤ i → i < e → K ys i = K xs i) → Tile ys s r e
  | [], s, e, h, _ => h
  | p :: r, s, e, h, hk => by
    have := h.2.2.2.le
    exact ⟨h.1, h.2.1, h.2.2.1.same fun i a b => hk i a (by omega), h.2.2.2.same fun i a b => hk i (by omega) b⟩
theorem Tile.app {xs : Array Keyed} : ∀ {r q : List (Nat × Nat × Nat)} {s e : Nat}, Tile xs s (r ++ q) e ↔ ∃ m, Tile xs s r m ∧ Tile xs m q e
  | [], q, s, e => ⟨fun h => ⟨s, rfl, h⟩, fun ⟨m, h1, h2⟩ => by have : s = m := h1; subst this; exact h2⟩
  | p :: r, q, s, e => by
    rw [List.cons_append]
    constructor
    · rintro ⟨a, b, c, d⟩
      obtain ⟨m, h1, h2⟩ := Tile.app.mp d
      exact ⟨m, ⟨a, b, c, h1⟩, h2⟩
    · rintro ⟨m, ⟨a, b, c, d⟩, h2⟩
      exact ⟨a, b, c, Tile.app.mpr ⟨m, d, h2⟩⟩
theorem pend_split {p : Array (Nat × Nat × Nat)} {i : Nat} (h : i + 1 < p.size) : ∃ pre a b post, p.toList = pre ++ a :: b :: post ∧ pre.length = i ∧ p[i]? = some a ∧ p[i + 1]? = some b ∧
    ∀ c, ((p.setIfInBounds i c).eraseIdxIfInBounds (i + 1)).toList = pre ++ c :: post := by
  have hl : i + 1 < p.toList.length := by simpa using h
  refine ⟨p.toList.take i, p[i], p[i + 1], p.toList.drop (i + 2), ?_, by simp; omega, by simp, by simp [h], fun c => ?_⟩
  · conv => lhs; rw [← List.take_append_drop i p.toList, List.drop_eq_getElem_cons (by omega), List.drop_eq_getElem_cons hl]
    simp
  · rw [Array.eraseIdxIfInBounds_eq, dif_pos (by simpa using h), Array.toList_eraseIdx, Array.toList_setIfInBounds]
    rw [List.eraseIdx_eq_take_drop_succ, List.take_set, List.drop_set_of_lt (by omega)]
    rw [List.set_eq_take_append_cons_drop, if_pos (by simp; omega), List.take_take, List.drop_take]
    simp [Nat.min_eq_left (Nat.le_succ i)]
end
end Bd
namespace Bd
open PySem PyProof.Rows
noncomputable section
theorem beyF_t {key : Keyed} {arr : Array Keyed} {base i : Nat} (h : bey false key arr base i = true) : K arr (base + i) ≤ kn key := by
  unfold bey at h; rw [if_neg Bool.false_ne_true] at h; simp only [Bool.not_eq_true', decide_eq_false_iff_not] at h; omega
theorem beyF_f {key : Keyed} {arr : Array Keyed} {base i : Nat} (h : bey false key arr base i = false) : kn key < K arr (base + i) := by
  unfold bey at h; rw [if_neg Bool.false_ne_true] at h; simp only [Bool.not_eq_false', decide_eq_true_eq] at h; omega
theorem beyF_m {key : Keyed} {arr : Array Keyed} {base i : Nat} (h : K arr (base + i) ≤ kn key) : bey false key arr base i = true := by
  unfold bey; rw [if_neg Bool.false_ne_true]; simp only [Bool.not_eq_true', decide_eq_false_iff_not]; omega
theorem beyT_t {key : Keyed} {arr : Array Keyed} {base i : Nat} (h : bey true key arr base i = true) : K arr (base + i) < kn key := by
  unfold bey at h; rw [if_pos rfl] at h; simpa using h
theorem beyT_f {key : Keyed} {arr : Array Keyed} {base i : Nat} (h : bey true key arr base i = false) : kn key ≤ K arr (base + i) := by
  unfold bey at h; rw [if_pos rfl] at h; simpa using h
theorem beyT_m {key : Keyed} {arr : Array Keyed} {base i : Nat} (h : K arr (base + i) < kn key) : bey true key arr base i = true := by
  unfold bey; rw [if_pos rfl]; simpa using h
section
variable {prog : Program} {w : World} {A : Around} {E : Value → Shared → Prop} {s : Shared} {a₀ : Array Keyed} {h0 : IntKeys a₀}
theorem wpS_set {σ : Type} {M : Model} {st st' : σ} {Q : PUnit → σ → Prop} (h : Q ⟨⟩ st') : wpS M A E s (set st' : StateT σ Sem PUnit) Q st := by
  unfold wpS; rw [StateT.run_set]; exact wpAny_pure ⟨rfl, h⟩
include h0
theorem SB.isK {st : SortSt} (h : SB a₀ st) {i : Nat} (hi : i < a₀.size) : ∃ p, (arrOf st)[i]? = some p ∧ IsK p := by
  obtain ⟨t, q, e⟩ := SB.at (h0 := h0) h hi
  exact ⟨_, e, _, t, rfl⟩
theorem wpS_mergeAt {st : SortSt} {i e : Nat} {Q : Bool → SortSt → Prop} (hB : SB a₀ st) (he : e ≤ a₀.size) (T : Tile (arrOf st) 0 (pendingOf st).toList e) (hi : i + 1 < (pendingOf st).size)
    (h : ∀ st', SB a₀ st' → Tile (arrOf st') 0 (pendingOf st').toList e → (pendingOf st').size + 1 = (pendingOf st).size → (∀ k, e ≤ k → K (arrOf st') k = K (arrOf st) k) → Q true st') :
    wpS (model prog w) A E s (mergeAt' i) Q st := by
  obtain ⟨pre, ⟨sa, na, pw⟩, ⟨sb, nb, pw2⟩, post, e1, e2, e3, e4, e5⟩ := pend_split hi
  have hsz := hB.size
  rw [e1] at T
  obtain ⟨m, T1, t1, t2, t3, t4, t5, t6, t7⟩ := Tile.app.mp T
  dsimp only at t1 t2 t3 t4 t5 t6 t7
  subst t1
  have hpe : sa + na + nb ≤ e := by have := t7.le; omega
  obtain rfl : sb = sa + na := t4
  have done : ∀ st', SB a₀ st' → pendingOf st' = ((pendingOf st).setIfInBounds i (sa, na + nb, pw)).eraseIdxIfInBounds (i + 1) → (∀ k, k < sa ∨ sa + na + nb ≤ k → K (arrOf st') k = K (arrOf st) k) → Seg (arrOf st') sa (sa + na + nb) → Q true st' := fun st' b p hk hS => by
    have ep : (pendingOf st').toList = pre ++ (sa, na + nb, pw) :: post := by rw [p]; exact e5 _
    refine h st' b ?_ ?_ fun k hk' => hk k (.inr (by omega))
    · rw [ep]
      refine Tile.app.mpr ⟨sa, T1.same fun k _ k2 => hk k (.inl k2), rfl, show 1 ≤ na + nb by omega, ?_, ?_⟩
      · rw [Nat.add_assoc] at hS
        exact hS
      · show Tile (arrOf st') (sa + (na + nb)) post e
        rw [← Nat.add_assoc]
        exact t7.same fun k k1 _ => hk k (.inr k1)
    · rw [← Array.length_toList, ← Array.length_toList, ep, e1]
      simp; omega
  unfold mergeAt'
  refine wpS_bind (wpS_get ?_)
  rw [e3, e4]
  dsimp only
  refine wpS_bind (wpS_set ?_)
  obtain ⟨b0, eb0, kb0⟩ := SB.isK (h0 := h0) hB (i := sa + na) (by omega)
  refine wpS_bind (wpS_elem eb0 ?_)
  have kb : kn b0 = K (arrOf st) (sa + na) := (K_at eb0).symm
  refine wpS_bind (wpS_gallop hB.kind kb0 (fun j hj => SB.isK (h0 := h0) hB (by omega)) (by omega) ?mono1 fun k k1 k2 k3 => ?_)
  case mono1 =>
    intro i j h1 h2 h3
    exact beyF_m (Int.le_trans (t3 (sa + i) (sa + j) (by omega) (by omega) (by omega)) (beyF_t h3))
  dsimp only
  have L : ∀ i, i < k → K (arrOf st) (sa + i) ≤ K (arrOf st) (sa + na) := fun i hi => by
    rw [← kb]; exact beyF_t (k2 i hi)
  have L2 : k < na → K (arrOf st) (sa + na) < K (arrOf st) (sa + k) := fun hk => by
    rw [← kb]; exact beyF_f (k3 k (Nat.le_refl _) hk)
  have F1 : ∀ i t, sa ≤ i → i < sa + k → sa + k ≤ t → t < sa + na + nb → K (arrOf st) i ≤ K (arrOf st) t := fun i t i1 i2 i3 i4 => by
    by_cases c : t < sa + na
    · exact t3 i t i1 (by omega) c
    · have a1 := L (i - sa) (by omega)
      rw [show sa + (i - sa) = i by omega] at a1
      exact Int.le_trans a1 (t6 _ t (Nat.le_refl _) (by omega) i4)
  by_cases c1 : na - k = 0
  · rw [if_pos (by simpa using c1)]
    refine wpS_pure (done _ ⟨hB.perm, hB.kind, hB.failed⟩ rfl (fun _ _ => rfl) fun i j h1 h2 h3 => ?_)
    show K (arrOf st) i ≤ K (arrOf st) j
    by_cases d1 : j < sa + na
    · exact t3 i j h1 h2 d1
    · by_cases d2 : i < sa + na
      · exact F1 i j h1 (by omega) (by omega) h3
      · exact t6 i j (by omega) h2 h3
  rw [if_neg (by simpa using c1)]
  obtain ⟨al, eal, kal⟩ := SB.isK (h0 := h0) hB (i := sa + k + (na - k) - 1) (by omega)
  refine wpS_bind (wpS_elem eal ?_)
  have ka : kn al = K (arrOf st) (sa + na - 1) := by rw [← K_at eal, show sa + k + (na - k) - 1 = sa + na - 1 by omega]
  refine wpS_bind (wpS_gallop hB.kind kal (fun j hj => SB.isK (h0 := h0) hB (by omega)) (by omega) ?mono2 fun q q1 q2 q3 => ?_)
  case mono2 =>
    intro i j h1 h2 h3
    exact beyT_m (Int.lt_of_le_of_lt (t6 (sa + na + i) (sa + na + j) (by omega) (by omega) (by omega)) (beyT_t h3))
  dsimp only
  have M1 : ∀ i, i < q → K (arrOf st) (sa + na + i) < K (arrOf st) (sa + na - 1) := fun i hi => by
    rw [← ka]; exact beyT_t (q2 i hi)
  have M2 : ∀ i, q ≤ i → i < nb → K (arrOf st) (sa + na - 1) ≤ K (arrOf st) (sa + na + i) := fun i h1 h2 => by
    rw [← ka]; exact beyT_f (q3 i h1 h2)
  have F2 : ∀ i t, sa ≤ i → i < sa + na + q → sa + na + q ≤ t → t < sa + na + nb → K (arrOf st) i ≤ K (arrOf st) t := fun i t i1 i2 i3 i4 => by
    by_cases c : i < sa + na
    · have a1 := M2 (t - (sa + na)) (by omega) (by omega)
      rw [show sa + na + (t - (sa + na)) = t by omega] at a1
      exact Int.le_trans (t3 i (sa + na - 1) i1 (by omega) (by omega)) a1
    · exact t6 i t (by omega) (by omega) i4
  by_cases c2 : q = 0
  · rw [if_pos (by simpa using c2)]
    subst c2
    refine wpS_pure (done _ ⟨hB.perm, hB.kind, hB.failed⟩ rfl (fun _ _ => rfl) fun i j h1 h2 h3 => ?_)
    show K (arrOf st) i ≤ K (arrOf st) j
    by_cases d1 : j < sa + na
    · exact t3 i j h1 h2 d1
    · by_cases d2 : i < sa + na
      · exact F2 i j h1 (by omega) (by omega) h3
      · exact t6 i j (by omega) h2 h3
  rw [if_neg (by simpa using c2)]
  have fin : ∀ (r : Array Keyed) (st' : SortSt) (st1 : SortSt), EqS st1 st' → arrOf st1 = arrOf st → kindOf st1 = kindOf st → failedOf st1 = failedOf st → pendingOf st1 = ((pendingOf st).setIfInBounds i (sa, na + nb, pw)).eraseIdxIfInBounds (i + 1) →
      MgF ((arrOf st).extract (sa + k) (sa + na)).toList ((arrOf st).extract (sa + na) (sa + na + q)).toList r.toList → Q true (setArr st' (wbk (sa + k) r.toList (arrOf st'))) := fun r st' st1 es x1 x2 x3 x4 hr => by
    have ea : arrOf st' = arrOf st := es.a.trans x1
    have hzone : ∀ x ∈ r.toList, ∃ t, sa + k ≤ t ∧ t < sa + na + q ∧ (arrOf st)[t]? = some x := fun x hx => by
      rcases List.mem_append.mp (hr.1.mem_iff.mp hx) with y | y
      · rw [ext_mid] at y
        obtain ⟨j, j1, j2⟩ := take_mem y
        exact ⟨_, by omega, by omega, j2⟩
      · rw [ext_mid] at y
        obtain ⟨j, j1, j2⟩ := take_mem y
        exact ⟨_, by omega, by omega, j2⟩
    have hcat : ((arrOf st).extract (sa + k) (sa + na)).toList ++ ((arrOf st).extract (sa + na) (sa + na + q)).toList = ((arrOf st).toList.drop (sa + k)).take (na - k + q) := by
      rw [ext_mid, ext_mid, List.take_add, List.drop_drop, show sa + na - (sa + k) = na - k by omega, show sa + k + (na - k) = sa + na by omega, show sa + na + q - (sa + na) = q by omega]
    have hlen : r.toList.length = na - k + q := by
      rw [hr.1.length_eq, hcat, List.length_take, List.length_drop, Array.length_toList]
      omega
    have hin : sa + k + r.toList.length ≤ (arrOf st).size := by omega
    have hK : ∀ t, K (wbk (sa + k) r.toList (arrOf st)) t = if sa + k ≤ t ∧ t < sa + k + r.toList.length then (match r.toList[t - (sa + k)]? with | some p => kn p | none => 0) else K (arrOf st) t := fun t => by
      have w1 := wbk_at (sa + k) r.toList (arrOf st) hin t
      by_cases c : sa + k ≤ t ∧ t < sa + k + r.toList.length
      · rw [if_pos c] at w1 ⊢
        unfold K
        rw [w1]; rfl
      · rw [if_neg c] at w1 ⊢
        exact K_congr w1
    have hmid : ∀ t, sa + k ≤ t → t < sa + na + q → ∃ x, r.toList[t - (sa + k)]? = some x ∧ K (wbk (sa + k) r.toList (arrOf st)) t = kn x := fun t h1 h2 => by
      have hlt : t - (sa + k) < r.toList.length := by omega
      refine ⟨r.toList[t - (sa + k)], List.getElem?_eq_getElem hlt, ?_⟩
      rw [hK, if_pos ⟨h1, by omega⟩, List.getElem?_eq_getElem hlt]
    have hout : ∀ t, ¬ (sa + k ≤ t ∧ t < sa + na + q) → K (wbk (sa + k) r.toList (arrOf st)) t = K (arrOf st) t := fun t c => by
      rw [hK, if_neg (by omega)]
    refine done _ ⟨?_, (es.k.trans x2).trans hB.kind, (es.f.trans x3).trans hB.failed⟩ (es.p.trans x4) ?_ ?_
    · show (wbk (sa + k) r.toList (arrOf st')).Perm a₀
      rw [ea]
      refine (wbk_perm _ _ _ hin ?_).trans hB.perm
      rw [hlen, ← hcat]
      exact hr.1
    · intro t ht
      show K (wbk (sa + k) r.toList (arrOf st')) t = _
      rw [ea]
      exact hout t (by omega)
    · intro t u h1 h2 h3
      show K (wbk (sa + k) r.toList (arrOf st')) t ≤ K (wbk (sa + k) r.toList (arrOf st')) u
      rw [ea]
      by_cases a1 : sa + k ≤ t ∧ t < sa + na + q
      · obtain ⟨x, x1, x2⟩ := hmid t a1.1 a1.2
        by_cases a2 : u < sa + na + q
        · obtain ⟨y, y1, y2⟩ := hmid u (by omega) a2
          rw [x2, y2]
          by_cases ee : t = u
          · subst ee
            rw [x1] at y1
            cases y1; exact Int.le_refl _
          · obtain ⟨z1, z2⟩ := List.getElem?_eq_some_iff.mp x1
            obtain ⟨z3, z4⟩ := List.getElem?_eq_some_iff.mp y1
            have := List.pairwise_iff_getElem.mp hr.2 _ _ z1 z3 (by omega)
            rw [z2, z4] at this
            exact this
        · rw [x2, hout u (by omega)]
          obtain ⟨t', b1, b2, b3⟩ := hzone x (List.mem_of_getElem? x1)
          rw [← K_at b3]
          exact F2 t' u (by omega) b2 (by omega) h3
      · rw [hout t a1]
        by_cases a2 : sa + k ≤ u ∧ u < sa + na + q
        · obtain ⟨y, y1, y2⟩ := hmid u a2.1 a2.2
          rw [y2]
          obtain ⟨t', b1, b2, b3⟩ := hzone y (List.mem_of_getElem? y1)
          rw [← K_at b3]
          exact F1 t t' h1 (by omega) b1 (by omega)
        · rw [hout u a2]
          by_cases a3 : t < sa + k
          · by_cases a4 : u < sa + k
            · exact t3 t u h1 h2 (by omega)
            · exact F1 t u h1 a3 (by omega) h3
          · exact t6 t u (by omega) h2 h3
  have xK : ∀ i j, j ≤ a₀.size → ∀ p ∈ ((arrOf st).extract i j).toList, IsK p := fun i j hj p hp => by
    rw [ext_mid] at hp
    obtain ⟨u, u1, u2⟩ := take_mem hp
    obtain ⟨p', e6, k6⟩ := SB.isK (h0 := h0) hB (i := i + u) (by omega)
    rw [u2] at e6; cases e6; exact k6
  have xS : ∀ i j, j ≤ a₀.size → ((arrOf st).extract i j).size = j - i := fun i j hj => by
    rw [Array.size_extract]; omega
  have xA : ∀ i j u, j ≤ a₀.size → u < j - i → K ((arrOf st).extract i j) u = K (arrOf st) (i + u) := fun i j u hj hu => by
    refine K_congr ?_
    rw [Array.getElem?_extract, if_pos (by omega)]
  have sX : SortedTo ((arrOf st).extract (sa + k) (sa + na)) ((arrOf st).extract (sa + k) (sa + na)).size := fun i j h1 h2 => by
    rw [xS _ _ (by omega)] at h2
    rw [xA _ _ i (by omega) (by omega), xA _ _ j (by omega) (by omega)]
    exact t3 _ _ (by omega) (by omega) (by omega)
  have sY : SortedTo ((arrOf st).extract (sa + na) (sa + na + q)) ((arrOf st).extract (sa + na) (sa + na + q)).size := fun i j h1 h2 => by
    rw [xS _ _ (by omega)] at h2
    rw [xA _ _ i (by omega) (by omega), xA _ _ j (by omega) (by omega)]
    exact t6 _ _ (by omega) (by omega) (by omega)
  have zX : 1 ≤ ((arrOf st).extract (sa + k) (sa + na)).size := by rw [xS _ _ (by omega)]; omega
  have zY : 1 ≤ ((arrOf st).extract (sa + na) (sa + na + q)).size := by rw [xS _ _ (by omega)]; omega
  have fst : K ((arrOf st).extract (sa + na) (sa + na + q)) 0 ≤ K ((arrOf st).extract (sa + k) (sa + na)) 0 := by
    rw [xA _ _ 0 (by omega) (by omega), xA _ _ 0 (by omega) (by omega)]
    exact Int.le_of_lt (L2 (by omega))
  have lst : ∀ j, j < ((arrOf st).extract (sa + na) (sa + na + q)).size → K ((arrOf st).extract (sa + na) (sa + na + q)) j ≤ K ((arrOf st).extract (sa + k) (sa + na)) (((arrOf st).extract (sa + k) (sa + na)).size - 1) := fun j hj => by
    rw [xS _ _ (by omega)] at hj
    rw [xS _ _ (by omega), xA _ _ j (by omega) (by omega), xA _ _ _ (by omega) (by omega), show sa + k + (sa + na - (sa + k) - 1) = sa + na - 1 by omega]
    exact Int.le_of_lt (M1 j (by omega))
  by_cases c3 : na - k ≤ q
  · rw [if_pos c3]
    refine wpS_bind (wpS_mergeLo hB.kind (xK _ _ (by omega)) (xK _ _ (by omega)) sX sY zX zY fst lst fun r st' es hr => ?_)
    refine wpS_bind (wpS_modify (wpS_bind (wpS_get ?_)))
    have ef : failedOf st' = none := es.f.trans hB.failed
    show wpS _ _ _ _ (pure (failedOf st').isNone) Q (setArr st' (wbk (sa + k) r.toList (arrOf st')))
    rw [ef]
    exact wpS_pure (fin r st' _ es rfl rfl rfl rfl hr)
  · rw [if_neg c3]
    refine wpS_bind (wpS_mergeHi hB.kind (xK _ _ (by omega)) (xK _ _ (by omega)) sX sY zX zY fst lst fun r st' es hr => ?_)
    refine wpS_bind (wpS_modify (wpS_bind (wpS_get ?_)))
    have ef : failedOf st' = none := es.f.trans hB.failed
    show wpS _ _ _ _ (pure (failedOf st').isNone) Q (setArr st' (wbk (sa + k) r.toList (arrOf st')))
    rw [ef]
    exact wpS_pure (fin r st' _ es rfl rfl rfl rfl hr)
end
end
end Bd
namespace Bd
open PySem PyProof.Rows
noncomputable section
theorem Tile.mod {xs : Array Keyed} {pw : Nat} : ∀ {r : List (Nat × Nat × Nat)} {j s e : Nat}, Tile xs s r e → Tile xs s (r.modify j fun p => (p.1, p.2.1, pw)) e
  | [], j, s, e, h => by simpa using h
  | p :: r, 0, s, e, h => by rw [List.modify_zero_cons]; exact h
  | p :: r, j + 1, s, e, h => by rw [List.modify_succ_cons]; exact ⟨h.1, h.2.1, h.2.2.1, Tile.mod h.2.2.2⟩
section
variable {prog : Program} {w : World} {A : Around} {E : Value → Shared → Prop} {s : Shared} {a₀ : Array Keyed} {h0 : IntKeys a₀}
include h0
theorem wpS_sortRunsL {st : SortSt} {Q : Unit → SortSt → Prop} (hB : SB a₀ st) (hp : pendingOf st = #[]) (h2 : 2 ≤ a₀.size)
    (h : ∀ st', (arrOf st').Perm a₀ → failedOf st' = none → SortedTo (arrOf st') a₀.size → Q () st') : wpS (model prog w) A E s sortRuns' Q st := by
  unfold sortRuns'
  refine wpS_bind (wpS_get ?_)
  have hsz : (arrOf st).size = a₀.size := hB.size
  dsimp only
  rw [hsz]
  refine wpS_bind (wpS_mono (wpS_forRange
    (I := fun x c st' => ∃ lo : Nat, c = (none, lo) ∧ x ≤ lo ∧ lo ≤ a₀.size ∧ SB a₀ st' ∧ Tile (arrOf st') 0 (pendingOf st').toList lo)
    (Q := fun c st' => c = (none, a₀.size) ∧ SB a₀ st' ∧ Tile (arrOf st') 0 (pendingOf st').toList a₀.size) ?step ?fin ?init) ?post)
  case init => exact ⟨0, rfl, by omega, by omega, hB, by rw [hp]; exact rfl⟩
  case fin =>
    rintro c st' ⟨lo, rfl, i1, i2, i3, i4⟩
    obtain rfl : lo = a₀.size := by omega
    exact ⟨rfl, i3, i4⟩
  case step =>
    rintro x c st' _ hx ⟨lo, rfl, i1, i2, i3, i4⟩
    dsimp only
    by_cases c1 : lo ≥ a₀.size
    · rw [if_pos c1]
      obtain rfl : lo = a₀.size := by omega
      exact wpS_pure ⟨rfl, i3, i4⟩
    rw [if_neg c1]
    refine wpS_bind (wpS_countL (h0 := h0) (by omega) (by omega) i3 fun n st2 F n1 n2 n3 => ?_)
    dsimp only
    split
    · refine wpS_bind (wpS_lift (wpAny_rule ⟨rfl, ?_⟩))
      next cm =>
      refine wpS_bind (wpS_binL (h0 := h0) (by omega) (by omega) F.b n3 fun st3 F2 S3 => ?_)
      simp only [Bool.not_true, Bool.false_eq_true, if_false]
      have F3 : FB a₀ st' lo st3 := ⟨F2.b, F2.p.trans F.p, fun i hi => (F2.k i hi).trans (F.k i hi)⟩
      have T3 : Tile (arrOf st3) 0 (pendingOf st3).toList lo := by rw [F3.p]; exact i4.same fun i _ hi => F3.k i hi
      obtain ⟨N, eN⟩ : ∃ N, N = min (a₀.size - lo) ((sortPriv% PySem.Builtin.minRun) a₀.size a₀.size 0) := ⟨_, rfl⟩
      rw [← eN] at S3 ⊢
      have N1 : 1 ≤ N := by omega
      have N2 : lo + N ≤ a₀.size := by omega
      refine wpS_bind (wpS_get ?_)
      rcases eb : (pendingOf st3).back? with _ | ⟨s1, l1, w1⟩
      · dsimp only
        refine wpS_bind (wpS_modify (wpS_pure ⟨lo + N, rfl, by omega, N2, ⟨F3.b.perm, F3.b.kind, F3.b.failed⟩, ?_⟩))
        show Tile (arrOf st3) 0 ((pendingOf st3).push (lo, N, 0)).toList (lo + N)
        rw [Array.toList_push]
        exact Tile.app.mpr ⟨lo, T3, rfl, N1, S3, rfl⟩
      · dsimp only
        refine wpS_bind (wpS_mono (wpS_forRange (I := fun _ c st4 => c = (none, ()) ∧ SB a₀ st4 ∧ Tile (arrOf st4) 0 (pendingOf st4).toList lo ∧ ∀ k, lo ≤ k → K (arrOf st4) k = K (arrOf st3) k)
          (Q := fun c st4 => c = (none, ()) ∧ SB a₀ st4 ∧ Tile (arrOf st4) 0 (pendingOf st4).toList lo ∧ ∀ k, lo ≤ k → K (arrOf st4) k = K (arrOf st3) k) ?_ (fun _ _ hh => hh) ⟨rfl, F3.b, T3, fun _ _ => rfl⟩) ?_)
        · rintro y c st4 _ hy ⟨rfl, u1, u2, u3⟩
          refine wpS_bind (wpS_get ?_)
          by_cases c2 : (pendingOf st4).size > 1
          · have c4 : (pendingOf st4).size - 2 + 1 < (pendingOf st4).size := by omega
            rw [if_pos c2]
            obtain ⟨_, ⟨v1, v2, v3⟩, _, _, _, _, e3, _, _⟩ := pend_split (p := pendingOf st4) (i := (pendingOf st4).size - 2) c4
            rw [e3]
            dsimp only
            split
            · exact wpS_pure ⟨rfl, u1, u2, u3⟩
            · refine wpS_bind (wpS_mergeAt (h0 := h0) u1 i2 u2 c4 fun st5 m1 m2 m3 m4 => ?_)
              simp only [Bool.not_true, Bool.false_eq_true, if_false]
              exact wpS_pure ⟨rfl, m1, m2, fun k hk => (m4 k hk).trans (u3 k hk)⟩
          · rw [if_neg c2]
            exact wpS_pure ⟨rfl, u1, u2, u3⟩
        · rintro c st4 ⟨rfl, u1, u2, u3⟩
          dsimp only
          refine wpS_bind (wpS_modify (wpS_bind (wpS_modify (wpS_pure ⟨lo + N, rfl, by omega, N2, ⟨u1.perm, u1.kind, u1.failed⟩, ?_⟩))))
          show Tile (arrOf st4) 0 (((pendingOf st4).modify ((pendingOf st4).size - 1) fun p => (p.1, p.2.1, _)).push (lo, N, 0)).toList (lo + N)
          rw [Array.toList_push, Array.toList_modify]
          exact Tile.app.mpr ⟨lo, u2.mod, rfl, N1, S3.same fun k k1 _ => u3 k k1, rfl⟩
    · have F3 := F
      have S3 := n3
      have T3 : Tile (arrOf st2) 0 (pendingOf st2).toList lo := by rw [F.p]; exact i4.same fun i _ hi => F.k i hi
      obtain ⟨st3, e3⟩ : ∃ st3, st3 = st2 := ⟨_, rfl⟩
      obtain ⟨N, eN⟩ : ∃ N, N = n := ⟨_, rfl⟩
      rw [← e3] at F3 S3 T3 ⊢
      rw [← eN] at S3 ⊢
      have N1 : 1 ≤ N := by omega
      have N2 : lo + N ≤ a₀.size := by omega
      refine wpS_bind (wpS_get ?_)
      rcases eb : (pendingOf st3).back? with _ | ⟨s1, l1, w1⟩
      · dsimp only
        refine wpS_bind (wpS_modify (wpS_pure ⟨lo + N, rfl, by omega, N2, ⟨F3.b.perm, F3.b.kind, F3.b.failed⟩, ?_⟩))
        show Tile (arrOf st3) 0 ((pendingOf st3).push (lo, N, 0)).toList (lo + N)
        rw [Array.toList_push]
        exact Tile.app.mpr ⟨lo, T3, rfl, N1, S3, rfl⟩
      · dsimp only
        refine wpS_bind (wpS_mono (wpS_forRange (I := fun _ c st4 => c = (none, ()) ∧ SB a₀ st4 ∧ Tile (arrOf st4) 0 (pendingOf st4).toList lo ∧ ∀ k, lo ≤ k → K (arrOf st4) k = K (arrOf st3) k)
          (Q := fun c st4 => c = (none, ()) ∧ SB a₀ st4 ∧ Tile (arrOf st4) 0 (pendingOf st4).toList lo ∧ ∀ k, lo ≤ k → K (arrOf st4) k = K (arrOf st3) k) ?_ (fun _ _ hh => hh) ⟨rfl, F3.b, T3, fun _ _ => rfl⟩) ?_)
        · rintro y c st4 _ hy ⟨rfl, u1, u2, u3⟩
          refine wpS_bind (wpS_get ?_)
          by_cases c2 : (pendingOf st4).size > 1
          · have c4 : (pendingOf st4).size - 2 + 1 < (pendingOf st4).size := by omega
            rw [if_pos c2]
            obtain ⟨_, ⟨v1, v2, v3⟩, _, _, _, _, e3, _, _⟩ := pend_split (p := pendingOf st4) (i := (pendingOf st4).size - 2) c4
            rw [e3]
            dsimp only
            split
            · exact wpS_pure ⟨rfl, u1, u2, u3⟩
            · refine wpS_bind (wpS_mergeAt (h0 := h0) u1 i2 u2 c4 fun st5 m1 m2 m3 m4 => ?_)
              simp only [Bool.not_true, Bool.false_eq_true, if_false]
              exact wpS_pure ⟨rfl, m1, m2, fun k hk => (m4 k hk).trans (u3 k hk)⟩
          · rw [if_neg c2]
            exact wpS_pure ⟨rfl, u1, u2, u3⟩
        · rintro c st4 ⟨rfl, u1, u2, u3⟩
          dsimp only
          refine wpS_bind (wpS_modify (wpS_bind (wpS_modify (wpS_pure ⟨lo + N, rfl, by omega, N2, ⟨u1.perm, u1.kind, u1.failed⟩, ?_⟩))))
          show Tile (arrOf st4) 0 (((pendingOf st4).modify ((pendingOf st4).size - 1) fun p => (p.1, p.2.1, _)).push (lo, N, 0)).toList (lo + N)
          rw [Array.toList_push, Array.toList_modify]
          exact Tile.app.mpr ⟨lo, u2.mod, rfl, N1, S3.same fun k k1 _ => u3 k k1, rfl⟩
  case post =>
    rintro c st' ⟨rfl, b1, b2⟩
    dsimp only
    have b3 := b2.le
    refine wpS_bind (wpS_mono (wpS_forRange
      (I := fun x c st'' => c = (none, ()) ∧ SB a₀ st'' ∧ Tile (arrOf st'') 0 (pendingOf st'').toList a₀.size ∧ (pendingOf st'').size + x ≤ a₀.size)
      (Q := fun c st'' => c = (none, ()) ∧ SB a₀ st'' ∧ Tile (arrOf st'') 0 (pendingOf st'').toList a₀.size ∧ (pendingOf st'').size ≤ 1) ?pstep ?pfin ?pinit) ?ppost)
    case pinit => exact ⟨rfl, b1, b2, by rw [Array.length_toList] at b3; omega⟩
    case pfin =>
      rintro c st'' ⟨rfl, d1, d2, d3⟩
      exact ⟨rfl, d1, d2, by omega⟩
    case ppost =>
      rintro c st'' ⟨rfl, d1, d2, d3⟩
      refine wpS_pure (h st'' d1.perm d1.failed fun i j h1 h3 => ?_)
      have : (pendingOf st'').toList.length ≤ 1 := by rw [Array.length_toList]; exact d3
      match e : (pendingOf st'').toList, this with
      | [], _ =>
        rw [e] at d2
        have : 0 = a₀.size := d2
        omega
      | [p], _ =>
        rw [e] at d2
        obtain ⟨_, _, q3, q4⟩ := d2
        have q5 : 0 + p.2.1 = a₀.size := q4
        exact q3 i j (by omega) h1 (by omega)
      | _ :: _ :: _, hh => exact absurd hh (by simp)
    case pstep =>
      rintro x c st'' _ hx ⟨rfl, d1, d2, d3⟩
      refine wpS_bind (wpS_get ?_)
      by_cases c1 : (pendingOf st'').size ≤ 1
      · rw [if_pos c1]
        exact wpS_pure ⟨rfl, d1, d2, c1⟩
      rw [if_neg c1]
      have M : ∀ i, i + 1 < (pendingOf st'').size → wpS (model prog w) A E s (mergeAt' i) (fun r st3 => r = true ∧ SB a₀ st3 ∧ Tile (arrOf st3) 0 (pendingOf st3).toList a₀.size ∧ (pendingOf st3).size + (x + 1) ≤ a₀.size) st'' := fun i hi =>
        wpS_mergeAt (h0 := h0) d1 (Nat.le_refl _) d2 hi fun st3 m1 m2 m3 _ => ⟨rfl, m1, m2, by omega⟩
      have C : ∀ (c : Prop) [Decidable c] (z : Nat), 1 < z → (if c then z - 2 - 1 else z - 2) + 1 < z := fun c _ z hz => by split <;> omega
      refine wpS_bind (wpS_mono (M _ (C _ _ (Nat.lt_of_not_le c1))) ?_)
      rintro r st3 ⟨rfl, m1, m2, m3⟩
      simp only [Bool.not_true, Bool.false_eq_true, if_false]
      exact wpS_pure ⟨rfl, m1, m2, m3⟩
end
end
end Bd
namespace Bd
open PySem L2
noncomputable section
section
variable {S : Sx}
def vChain (p q : PyData → PyData → Option Sl) (f g h : En → Option PyData) : En → Option Sl := fun Γ => (f Γ).bind fun x => (g Γ).bind fun y => match p x y with
  | some (.fz (.bool true)) => (h Γ).bind fun z => q y z
  | some (.fz (.bool false)) => some (.fz (.bool false))
  | _ => none
def vNeg (f : En → Option PyData) : En → Option Sl := fun Γ => match f Γ with
  | some (.int i) => some (.fz (.int (-i)))
  | _ => none
def tRevS (K : PySem.W.Frag) (te : TE) : TE := fun σ H Q => te σ H fun x H1 => ∃ a xs, x = .ref a ∧ SqL K H1 a xs ∧ ∀ p, H1 p = none → Q (.ref p) (upd H1 p (.lst xs.reverse))
theorem pe_rev {X : Cx} {e : Expr} {te : TE} {j p1 p2 p3 pos} (he : PE X e te) : PE X (.Subscript e (.Slice none none (some (.UnaryOp .USub (.Constant (.int 1) j p1) p2)) p3) pos) (tRevS X.K te) := by
  intro pins s σ H Q I h
  refine PyProof.Rows.Subscript_ (thn (he pins s σ H _ I h) fun v s1 ⟨x, H1, I1, r1, q1⟩ => ?_)
  refine wpAny_Slice ?_
  rw [evalPart_none]
  refine wpAny_pure (wpAny_pure ?_)
  have hst : PO X (some (.UnaryOp .USub (.Constant (.int 1) j p1) p2)) (tPart (tUn (rU fun i => .int (-i)) (tC (.int 1)))) := po_some (pe_un un_neg pe_int)
  refine thn (hst pins s1 σ H1 (fun o H' => o = some (-1) ∧ H' = H1) I1 ⟨1, rfl, -1, rfl, rfl, rfl⟩) fun vs s2 ⟨o, H2, I2, ps, eo, eH⟩ => ?_
  subst eo eH
  obtain ⟨a, xs, rfl, hx, q⟩ := q1
  cases r1
  have I4 : Inv X pins σ H2 { s2 with heap := s2.heap.push { cls := .type "slice", data := .fields #[.none, .none, vs] } } := I2.kept (t' := s2.toks) fun b ob q => Heap.get?_push_of_some _ q
  obtain ⟨its, r, ht, hz⟩ := I4.list hx
  have hlen := r.length
  show wpAny (model X.prog X.w) X.A (PyProof.Rows.subscriptTail e _ (.ref a) (.ref s2.heap.objs.size)) (EP X pins σ Q) X.xe { s2 with heap := s2.heap.push { cls := .type "slice", data := .fields #[.none, .none, vs] } }
  refine PyProof.Rows.tail_any (ops := [.ref a, .ref s2.heap.objs.size]) ht.isList.typeIs PySem.slot_list_getitem.lookup ?_ (by with_unfolding_all rfl)
  refine PySem.wpAny_getItem_list_slice ht.isList (Heap.IsSliceOf.new ..) .none .none ps (by decide) ?_ (by rw [List.size_toArray] <;> omega)
  rw [PySem.W.krv_pick]
  refine ⟨.ref _, _, I4.laid (t' := s2.toks) (o := .lst xs.reverse) (fun b ob q => Heap.get?_push_of_some _ q) (Nat.le_refl _) ?_, rfl, q _ (I4.hok.fresh (Nat.le_refl _))⟩
  exact ⟨by rw [List.length_reverse]; exact hz, _, 0, r.reverse, Heap.get?_push_size _ rfl⟩
def vRev (f : En → Option PyData) : En → Option Sl := fun Γ => match f Γ with
  | some (.list xs) => some (.ow xs.reverse)
  | _ => none
theorem DpAll.reverse {K : PySem.W.Frag} {F : Hp} : ∀ {vs : List V} {ds : List PyData}, DpAll K F vs ds → DpAll K F vs.reverse ds.reverse
  | _, _, .nil => .nil
  | _, _, .cons h t => by rw [List.reverse_cons, List.reverse_cons]; exact (DpAll.reverse t).snoc h
theorem se_rev {e : Expr} {j p1 p2 p3 pos f} (h : SL S e f) : SE S (.Subscript e (.Slice none none (some (.UnaryOp .USub (.Constant (.int 1) j p1) p2)) p3) pos) (vRev f) := by
  obtain ⟨t, a1, a2⟩ := h
  refine ⟨tRevS S.K t, fun X ok => ok.K ▸ pe_rev (a1 X ok), fun Γ σ H0 F H Q s E hf k => ?_⟩
  unfold vRev at hf
  split at hf
  · next xs q =>
    cases hf
    refine a2 Γ σ H0 F H _ _ E q fun v F1 H1 u1 l1 => ?_
    obtain ⟨a, vs, rfl, q1, q2⟩ := l1.list u1.fh
    exact ⟨a, vs, rfl, q1, fun p hp => k _ F1 _ (u1.trans (.newO u1.fh hp)) ((SlN.lst u1.fh hp (DpAll.reverse q2)).weak u1.h)⟩
  · cases hf
def noOw (Γ : En) : Bool := Γ.all fun o => match o with
  | some (.ow _) => false
  | _ => true
theorem noOw_at {Γ : En} (h : noOw Γ = true) {i : Nat} {xs : List PyData} (e : Γ[i]? = some (some (.ow xs))) : False := by
  unfold noOw at h
  rw [List.all_eq_true] at h
  have := h _ (List.mem_of_getElem? e)
  cases this
theorem EnR.move {K : PySem.W.Frag} {H0 F H F' H' : Hp} {Γ : En} {σ : St} (E : EnR K H0 F H Γ σ) (n : noOw Γ = true) (h1 : Same F F') (h2 : Same F' H') : EnR K H0 F' H' Γ σ :=
  ⟨h2, fun i s h => by
    obtain ⟨v, e1, e2⟩ := E.sl i s h
    refine ⟨v, e1, ?_⟩
    cases s with
    | fz d => exact dp_mono h1 e2
    | ow xs => exact (noOw_at n h).elim, fun i xs a h _ => (noOw_at n h).elim, fun i j xs ys a h _ _ _ => (noOw_at n h).elim, E.ln⟩
def lcD2 (g : PyData → En → Option En) (c : En → Option Bool) (fi1 : En → Option (List PyData)) (g1 : PyData → En → Option En) (c1 : En → Option Bool) (fe : En → Option PyData) (vs1 : List Nat) (Γ : En) : List PyData → Option (List PyData)
  | [] => some []
  | x :: xs => (g x Γ).bind fun Γ1 => (c Γ1).bind fun b => if b = true then (if noOw Γ1 = true then (fi1 Γ1).bind fun ds1 => (lcD g1 c1 fe (wipeE Γ1 vs1) ds1).bind fun ys => (lcD2 g c fi1 g1 c1 fe vs1 Γ xs).map (ys ++ ·) else none) else lcD2 g c fi1 g1 c1 fe vs1 Γ xs
def vLc2 (fi : En → Option (List PyData)) (g : PyData → En → Option En) (c : En → Option Bool) (fi1 : En → Option (List PyData)) (g1 : PyData → En → Option En) (c1 : En → Option Bool) (fe : En → Option PyData) (vs vs1 : List Nat) : En → Option Sl := fun Γ =>
  (fi Γ).bind fun ds => (lcD2 g c fi1 g1 c1 fe vs1 (wipeE Γ vs) ds).bind fun out => if out.length < cap then some (.ow out) else none
end
end
end Bd
namespace Bd
open PySem L2
noncomputable section
inductive S2 where
  | sl (s : Sl) | dw (xss : List (List PyData))
abbrev En2 := List (Option S2)
def prj1 : Option S2 → Option Sl
  | some (.sl s) => some s
  | _ => none
def prj (Θ : En2) : En := Θ.map prj1
def vw1 : Option S2 → Option Sl
  | some (.sl s) => some s
  | some (.dw xss) => some (.fz (.list (xss.map PyData.list)))
  | none => none
def vw (Θ : En2) : En := Θ.map vw1
inductive DwC (K : PySem.W.Frag) (F H : Hp) : List V → List (List PyData) → Prop
  | nil : DwC K F H [] []
  | cons {b : Addr} {vs us : List V} {xs : List PyData} {xss : List (List PyData)} : F b = none → H b = some (.lst vs) → DpAll K F vs xs → DwC K F H us xss → DwC K F H (.ref b :: us) (xs :: xss)
def DwV (K : PySem.W.Frag) (F H : Hp) (xss : List (List PyData)) (v : V) : Prop :=
  ∃ a us, v = .ref a ∧ F a = none ∧ H a = some (.lst us) ∧ V.ref a ∉ us ∧ us.Nodup ∧ DwC K F H us xss
def DA (H : Hp) (v : V) (b : Addr) : Prop := ∃ a us, v = .ref a ∧ H a = some (.lst us) ∧ (b = a ∨ V.ref b ∈ us)
section
variable {K : PySem.W.Frag} {F H F' H' : Hp}
theorem DwC.mem : ∀ {us : List V} {xss : List (List PyData)} {b : Addr}, DwC K F H us xss → V.ref b ∈ us → F b = none ∧ ∃ vs, H b = some (.lst vs)
  | _, _, _, .nil, h => by cases h
  | _, _, b, .cons h1 h2 h3 t, h => by
    rcases List.mem_cons.mp h with e | e
    · cases e; exact ⟨h1, _, h2⟩
    · exact DwC.mem t e
theorem DwC.move (s : Same F F') : ∀ {us : List V} {xss : List (List PyData)}, DwC K F H us xss → (∀ b, V.ref b ∈ us → H' b = H b ∧ F' b = none) → DwC K F' H' us xss
  | _, _, .nil, _ => .nil
  | _, _, .cons h1 h2 h3 t, k => by
    obtain ⟨e1, e2⟩ := k _ List.mem_cons_self
    exact .cons e2 (e1.trans h2) (dpAll_mono s h3) (DwC.move s t fun b hb => k b (List.mem_cons_of_mem _ hb))
theorem DwC.get : ∀ {us : List V} {xss : List (List PyData)} {i : Nat} {u : V}, DwC K F H us xss → us[i]? = some u → ∃ b vs xs, u = .ref b ∧ xss[i]? = some xs ∧ F b = none ∧ H b = some (.lst vs) ∧ DpAll K F vs xs
  | _, _, _, _, .nil, h => by simp at h
  | _, _, 0, _, .cons h1 h2 h3 t, h => by simp at h; exact ⟨_, _, _, h.symm, rfl, h1, h2, h3⟩
  | _, _, i + 1, u, .cons h1 h2 h3 t, h => by
    obtain ⟨b, vs, xs, e1, e2, e3⟩ := DwC.get (i := i) (u := u) t (by simpa using h)
    exact ⟨b, vs, xs, e1, by simpa using e2, e3⟩
theorem DwC.length : ∀ {us : List V} {xss : List (List PyData)}, DwC K F H us xss → us.length = xss.length
  | _, _, .nil => rfl
  | _, _, .cons _ _ _ t => by rw [List.length_cons, List.length_cons, DwC.length t]
theorem DwC.snoc {b : Addr} {vs : List V} {xs : List PyData} (h1 : F b = none) (h2 : H b = some (.lst vs)) (h3 : DpAll K F vs xs) : ∀ {us : List V} {xss : List (List PyData)}, DwC K F H us xss → DwC K F H (us ++ [.ref b]) (xss ++ [xs])
  | _, _, .nil => .cons h1 h2 h3 .nil
  | _, _, .cons a1 a2 a3 t => .cons a1 a2 a3 (DwC.snoc h1 h2 h3 t)
theorem DwC.dp (s : Same F F') : ∀ {us : List V} {xss : List (List PyData)}, DwC K F H us xss → (∀ b, V.ref b ∈ us → F' b = H b) → DpAll K F' us (xss.map PyData.list)
  | _, _, .nil, _ => .nil
  | _, _, .cons h1 h2 h3 t, k => .cons (.lst (SqL.of ((k _ List.mem_cons_self).trans h2)) (dpAll_mono s h3)) (DwC.dp s t fun b hb => k b (List.mem_cons_of_mem _ hb))
theorem DwV.own {xss : List (List PyData)} {v : V} {b : Addr} (h : DwV K F H xss v) (d : DA H v b) : F b = none ∧ ∃ vs, H b = some (.lst vs) := by
  obtain ⟨a, us, rfl, h1, h2, _, _, h3⟩ := h
  obtain ⟨a', us', e, e1, e2⟩ := d
  cases e
  rw [h2] at e1; cases e1
  rcases e2 with rfl | e2
  · exact ⟨h1, _, h2⟩
  · exact h3.mem e2
theorem DwV.da {xss : List (List PyData)} {v : V} (h : DwV K F H xss v) (k : ∀ b, DA H v b → H' b = H b) {b : Addr} : DA H' v b ↔ DA H v b := by
  obtain ⟨a, us, rfl, _, h2, _⟩ := h
  have ha : H' a = H a := k a ⟨a, us, rfl, h2, .inl rfl⟩
  constructor
  · rintro ⟨a', us', e, e1, e2⟩
    cases e
    exact ⟨a, us', rfl, by rw [← ha]; exact e1, e2⟩
  · rintro ⟨a', us', e, e1, e2⟩
    cases e
    exact ⟨a, us', rfl, by rw [ha]; exact e1, e2⟩
theorem DwV.move {xss : List (List PyData)} {v : V} (h : DwV K F H xss v) (s : Same F F') (k : ∀ b, DA H v b → H' b = H b ∧ F' b = none) : DwV K F' H' xss v := by
  obtain ⟨a, us, rfl, h1, h2, h3, h4, h5⟩ := h
  obtain ⟨e1, e2⟩ := k a ⟨a, us, rfl, h2, .inl rfl⟩
  exact ⟨a, us, rfl, e2, e1.trans h2, h3, h4, h5.move s fun b hb => k b ⟨a, us, rfl, h2, .inr hb⟩⟩
theorem DwV.sub {xss : List (List PyData)} {v : V} (u : Sub F H F' H') (h : DwV K F H xss v) : DwV K F' H' xss v := h.move u.f fun b hb => by
  obtain ⟨h1, vs, h2⟩ := h.own hb
  exact ⟨(u.h b _ h2).trans h2.symm, u.o b _ h2 h1⟩
end
structure EnR2 (K : PySem.W.Frag) (H0 F H : Hp) (Θ : En2) (σ : St) : Prop where
  en : EnR K H0 F H (prj Θ) σ
  dw : ∀ (i : Nat) (xss : List (List PyData)), Θ[i]? = some (some (.dw xss)) → ∃ v, σ[i]? = some (some v) ∧ DwV K F H xss v ∧ ∀ b, DA H v b → H0 b = none
  dd : ∀ (i j : Nat) (xss yss : List (List PyData)) (v u : V) (b : Addr), Θ[i]? = some (some (.dw xss)) → Θ[j]? = some (some (.dw yss)) → σ[i]? = some (some v) → σ[j]? = some (some u) → DA H v b → DA H u b → i = j
  dx : ∀ (i j : Nat) (xss : List (List PyData)) (ys : List PyData) (v : V) (b : Addr), Θ[i]? = some (some (.dw xss)) → Θ[j]? = some (some (.sl (.ow ys))) → σ[i]? = some (some v) → σ[j]? = some (some (.ref b)) → DA H v b → False
structure StR2 (K : PySem.W.Frag) (F0 H0 F H : Hp) (Θ : En2) (σ : St) : Prop where
  en : EnR2 K H0 F H Θ σ
  su : Sub F0 H0 F H
theorem prj_at {Θ : En2} {i : Nat} {s : Sl} : (prj Θ)[i]? = some (some s) ↔ Θ[i]? = some (some (.sl s)) := by
  unfold prj
  rw [List.getElem?_map]
  cases q : Θ[i]? with
  | none => simp
  | some o =>
    cases o with
    | none => simp [prj1]
    | some t => cases t <;> simp [prj1]
theorem prj_dw {Θ : En2} {i : Nat} {xss : List (List PyData)} (h : Θ[i]? = some (some (.dw xss))) : (prj Θ)[i]? = some none := by
  unfold prj
  rw [List.getElem?_map, h]; rfl
theorem EnR2.mono {K : PySem.W.Frag} {H0 F H F' H' : Hp} {Θ : En2} {σ : St} (E : EnR2 K H0 F H Θ σ) (u : Sub F H F' H') : EnR2 K H0 F' H' Θ σ := by
  have keep : ∀ {i : Nat} {xss : List (List PyData)} {v : V}, Θ[i]? = some (some (.dw xss)) → σ[i]? = some (some v) → ∀ b, DA H' v b ↔ DA H v b := fun {i xss v} h1 h2 b => by
    obtain ⟨v', e1, e2, _⟩ := E.dw i xss h1
    rw [h2] at e1; cases e1
    exact e2.da fun b hb => by
      obtain ⟨_, vs, q⟩ := e2.own hb
      exact (u.h b _ q).trans q.symm
  refine ⟨E.en.mono u, fun i xss h => ?_, fun i j xss yss v w b h1 h2 h3 h4 h5 h6 => ?_, fun i j xss ys v b h1 h2 h3 h4 h5 => ?_⟩
  · obtain ⟨v, e1, e2, e3⟩ := E.dw i xss h
    exact ⟨v, e1, e2.sub u, fun b hb => e3 b ((keep h e1 b).mp hb)⟩
  · exact E.dd i j xss yss v w b h1 h2 h3 h4 ((keep h1 h3 b).mp h5) ((keep h2 h4 b).mp h6)
  · exact E.dx i j xss ys v b h1 h2 h3 h4 ((keep h1 h3 b).mp h5)
theorem StR2.mono {K : PySem.W.Frag} {F0 H0 F H F' H' : Hp} {Θ : En2} {σ : St} (R : StR2 K F0 H0 F H Θ σ) (u : Sub F H F' H') : StR2 K F0 H0 F' H' Θ σ := ⟨R.en.mono u, R.su.trans u⟩
inductive Out2 where
  | nx (Θ : En2) | rt (s : S2)
def S2N (K : PySem.W.Frag) (H0 F H : Hp) : S2 → V → Prop
  | .sl s, v => SlN K H0 F H s v
  | .dw xss, v => DwV K F H xss v ∧ ∀ b, DA H v b → H0 b = none
section
variable {S : Sx}
def oNil2 : En2 → Option Out2 := fun Θ => some (.nx Θ)
def oSeq2 (g h : En2 → Option Out2) : En2 → Option Out2 := fun Θ => match g Θ with
  | some (.nx Θ') => h Θ'
  | r => r
def dwOk (ds : List Nat) : Nat → En2 → Bool
  | _, [] => true
  | k, some (.dw _) :: Θ => ds.contains k && dwOk ds (k + 1) Θ
  | k, _ :: Θ => dwOk ds (k + 1) Θ
def mrg : En2 → En → En2
  | some (.dw x) :: Θ, _ :: Γ => some (.dw x) :: mrg Θ Γ
  | _ :: Θ, s :: Γ => s.map S2.sl :: mrg Θ Γ
  | _, _ => []
def lft (ds : List Nat) (g : En → Option Out) : En2 → Option Out2 := fun Θ => if dwOk ds 0 Θ = true then (match g (prj Θ) with
  | some (.nx Γ) => if Θ.length = Γ.length then some (.nx (mrg Θ Γ)) else none
  | some (.rt s) => some (.rt (.sl s))
  | _ => none) else none
end
end
end Bd
namespace Bd
open PySem L2
noncomputable section
section
variable {K : PySem.W.Frag}
def flatS : Sl → Bool
  | .fz d => flatD d
  | .ow xs => xs.all flatD
def DAny (H : Hp) (Θ : En2) (σ : St) (b : Addr) : Prop := ∃ (i : Nat) (xss : List (List PyData)) (v : V), Θ[i]? = some (some (.dw xss)) ∧ σ[i]? = some (some v) ∧ DA H v b
open Classical in
def lessF (H : Hp) (Θ : En2) (σ : St) (F : Hp) : Hp := fun b => if DAny H Θ σ b then none else F b
variable {F0 H0 F H F' H' : Hp} {Θ : En2} {σ : St}
theorem EnR2.any (E : EnR2 K H0 F H Θ σ) {b : Addr} (h : DAny H Θ σ b) : F b = none ∧ H0 b = none ∧ ∃ vs, H b = some (.lst vs) := by
  obtain ⟨i, xss, v, h1, h2, h3⟩ := h
  obtain ⟨v', e1, e2, e3⟩ := E.dw i xss h1
  rw [h2] at e1; cases e1
  obtain ⟨q1, q2⟩ := e2.own h3
  exact ⟨q1, e3 b h3, q2⟩
structure Thaw (K : PySem.W.Frag) (F0 H0 F H : Hp) (Θ : En2) (σ : St) (F' H' : Hp) : Prop where
  ff : Same F (lessF H Θ σ F')
  hh : ∀ b, DAny H Θ σ b → H' b = H b ∧ lessF H Θ σ F' b = none ∧ F' b ≠ none
  su : Sub F0 H0 (lessF H Θ σ F') H'
def thw (ts : List Nat) : Nat → En2 → En → En2
  | k, some (.dw x) :: Θ, _ :: Γ => some (.dw x) :: thw ts (k + 1) Θ Γ
  | k, t :: Θ, s :: Γ => (if ts.contains k = true then (match s with
    | some s' => if flatS s' = true then some (S2.sl s') else none
    | none => none) else t) :: thw ts (k + 1) Θ Γ
  | _, _, _ => []
end
section
variable {S : Sx}
def vwG (ds ts : List Nat) (g : En → Option Out) : En2 → Option Out2 := fun Θ => if dwOk ds 0 Θ = true then (match g (vw Θ) with
  | some (.nx Γ) => if Θ.length = Γ.length then some (.nx (thw ts 0 Θ Γ)) else none
  | some (.rt s) => if flatS s = true then some (.rt (.sl s)) else none
  | _ => none) else none
end
end
end Bd
namespace Bd
open PySem L2
noncomputable section
section
variable {S : Sx}
def DwN (K : PySem.W.Frag) (H F' H' : Hp) (xss : List (List PyData)) (v : V) : Prop := DwV K F' H' xss v ∧ ∀ b, DA H' v b → H b = none
def lcDD (g : PyData → En → Option En) (c : En → Option Bool) (fe : En → Option Sl) (Γ : En) : List PyData → Option (List (List PyData))
  | [] => some []
  | x :: xs => (g x Γ).bind fun Γ1 => (c Γ1).bind fun b => if b = true then (match fe Γ1 with
    | some (.ow ys) => (lcDD g c fe Γ xs).map (ys :: ·)
    | _ => none) else lcDD g c fe Γ xs
def vLcD (items : En → Option (List PyData)) (g : PyData → En → Option En) (c : En → Option Bool) (fe : En → Option Sl) (vs : List Nat) : En → Option (List (List PyData)) := fun Γ =>
  (items Γ).bind fun ds => if ds.length < cap then lcDD g c fe (wipeE Γ vs) ds else none
def spDD (K : PySem.W.Frag) (n : Nat) (m : List PyData → Option (List (List PyData))) : Sp := fun vs H Q _ =>
  ∃ F ds xss, Same F H ∧ ds.length = n ∧ DpAll K F vs ds ∧ m ds = some xss ∧ ∀ v F' H', Sub F H F' H' → DwN K H F' H' xss v → Q v H'
structure FnDD (S : Sx) (x : Str) (ps : List Str) (m : List PyData → Option (List (List PyData))) : Prop where
  ex : ∃ (f : Addr) (fd : FuncData) (j : Nat), FnOk S.P S.w S.K S.mg S.base CX0 j f fd ps (spDD S.K ps.length m) ∧ j ≤ S.k ∧ S.mg x = some (.ref f) ∧ PySem.W.keepIn S.K (.ref f) = true ∧ Binds S.K fd ps []
def callDD (p : List PyData → Option (List (List PyData))) (g : En → Option (List PyData)) : En → Option (List (List PyData)) := fun Γ => (g Γ).bind p
theorem DwN.weak {K : PySem.W.Frag} {H H1 F' H' : Hp} {xss : List (List PyData)} {v : V} (e : Same H H1) (h : DwN K H1 F' H' xss v) : DwN K H F' H' xss v := ⟨h.1, fun b hb => e.free (h.2 b hb)⟩
def oRetD (f : En → Option (List (List PyData))) : En2 → Option Out2 := fun Θ => (f (prj Θ)).map fun xss => .rt (.dw xss)
theorem prj_set (Θ : En2) (i : Nat) (o : Option S2) : prj (Θ.set i o) = (prj Θ).set i (prj1 o) := by
  unfold prj
  rw [List.map_set]
theorem EnR.wipe1 {K : PySem.W.Frag} {H0 F H : Hp} {Γ : En} {σ : St} (i : Nat) (v : Option V) (E : EnR K H0 F H Γ σ) : EnR K H0 F H (Γ.set i none) (σ.set i v) := by
  have at1 : ∀ {j : Nat} {s : Sl}, (Γ.set i none)[j]? = some (some s) → i ≠ j ∧ Γ[j]? = some (some s) := fun {j s} h => by
    rw [List.getElem?_set] at h
    split at h
    · split at h <;> cases h
    · next e => exact ⟨e, h⟩
  have at2 : ∀ {j : Nat}, i ≠ j → (σ.set i v)[j]? = σ[j]? := fun {j} h => List.getElem?_set_ne h
  refine ⟨E.fh, fun j s h => ?_, fun j xs a h1 h2 => ?_, fun j k xs ys a h1 h2 h3 h4 => ?_, by rw [List.length_set, List.length_set]; exact E.ln⟩
  · obtain ⟨n, h⟩ := at1 h
    rw [at2 n]; exact E.sl j s h
  · obtain ⟨n, h1⟩ := at1 h1
    rw [at2 n] at h2
    exact E.nw j xs a h1 h2
  · obtain ⟨n, h1⟩ := at1 h1
    obtain ⟨n', h2⟩ := at1 h2
    rw [at2 n] at h3
    rw [at2 n'] at h4
    exact E.ds j k xs ys a h1 h2 h3 h4
theorem set_at2 {Θ : En2} {i j : Nat} {o : Option S2} {t : S2} (h : (Θ.set i o)[j]? = some (some t)) : (i = j ∧ o = some t) ∨ (i ≠ j ∧ Θ[j]? = some (some t)) := by
  rw [List.getElem?_set] at h
  split at h
  · next e =>
    split at h
    · cases h; exact .inl ⟨e, rfl⟩
    · cases h
  · next e => exact .inr ⟨e, h⟩
theorem EnR2.wipe1 {K : PySem.W.Frag} {H0 F H : Hp} {Θ : En2} {σ : St} (i : Nat) (v : Option V) (E : EnR2 K H0 F H Θ σ) : EnR2 K H0 F H (Θ.set i none) (σ.set i v) := by
  have at1 : ∀ {j : Nat} {s : S2}, (Θ.set i none)[j]? = some (some s) → i ≠ j ∧ Θ[j]? = some (some s) := fun {j s} h => by
    rcases set_at2 h with ⟨_, z⟩ | z
    · cases z
    · exact z
  have at2 : ∀ {j : Nat}, i ≠ j → (σ.set i v)[j]? = σ[j]? := fun {j} h => List.getElem?_set_ne h
  refine ⟨by rw [prj_set]; exact E.en.wipe1 i v, fun j xss h => ?_, fun j k xss yss u w b h1 h2 h3 h4 h5 h6 => ?_, fun j k xss ys u b h1 h2 h3 h4 h5 => ?_⟩
  · obtain ⟨n, h⟩ := at1 h
    rw [at2 n]; exact E.dw j xss h
  · obtain ⟨n, h1⟩ := at1 h1
    obtain ⟨n', h2⟩ := at1 h2
    rw [at2 n] at h3
    rw [at2 n'] at h4
    exact E.dd j k xss yss u w b h1 h2 h3 h4 h5 h6
  · obtain ⟨n, h1⟩ := at1 h1
    obtain ⟨n', h2⟩ := at1 h2
    rw [at2 n] at h3
    rw [at2 n'] at h4
    exact E.dx j k xss ys u b h1 h2 h3 h4 h5
def oSetD (i : Nat) (f : En → Option (List (List PyData))) : En2 → Option Out2 := fun Θ => if i < Θ.length then (f (prj Θ)).map fun xss => .nx (Θ.set i (some (.dw xss))) else none
end
end
end Bd
namespace Bd
open PySem L2
noncomputable section
section
variable {K : PySem.W.Frag} {F0 H0 F H F' H' : Hp} {Θ : En2} {σ : St}
theorem DwC.put {b : Addr} {ws : List V} {ys : List PyData} (hd : DpAll K F ws ys) : ∀ {us : List V} {xss : List (List PyData)} {i : Nat}, us.Nodup → DwC K F H us xss → us[i]? = some (.ref b) → DwC K F (upd H b (.lst ws)) us (xss.set i ys)
  | _, _, _, _, .nil, h => by simp at h
  | _, _, 0, nd, .cons h1 h2 h3 t, h => by
    simp at h; cases h
    rw [List.nodup_cons] at nd
    exact .cons h1 upd_same hd (t.move (.refl _) fun c hc => ⟨upd_ne (fun z => by subst z; exact nd.1 hc), (t.mem hc).1⟩)
  | _, _, i + 1, nd, .cons h1 h2 h3 t, h => by
    rw [List.nodup_cons] at nd
    have h' := h
    rw [List.getElem?_cons_succ] at h'
    have ih := DwC.put hd (i := i) nd.2 t h'
    refine .cons h1 ?_ h3 ih
    rw [upd_ne (fun z => by subst z; exact nd.1 (List.mem_of_getElem? h'))]; exact h2
theorem prj_set_none {Θ : En2} {j : Nat} {xss yss : List (List PyData)} (h : Θ[j]? = some (some (.dw xss))) : prj (Θ.set j (some (.dw yss))) = prj Θ := by
  rw [prj_set]
  apply List.ext_getElem?
  intro k
  rw [List.getElem?_set]
  split
  · next e =>
    subst e
    rw [prj_dw h]
    rw [if_pos (List.getElem?_eq_some_iff.mp (prj_dw h)).1]; rfl
  · rfl
theorem EnR2.put (E : EnR2 K H0 F H Θ σ) {i j : Nat} {a b : Addr} {us ws : List V} {xss : List (List PyData)} {ys : List PyData} (hj : Θ[j]? = some (some (.dw xss))) (hs : σ[j]? = some (some (.ref a))) (hH : H a = some (.lst us)) (hu : us[i]? = some (.ref b)) (hd : DpAll K F ws ys) :
    EnR2 K H0 F (upd H b (.lst ws)) (Θ.set j (some (.dw (xss.set i ys)))) σ := by
  obtain ⟨v, e1, e2, e3⟩ := E.dw j xss hj
  rw [hs] at e1; cases e1
  obtain ⟨a', us', ea, q1, q2, q3, q4, q5⟩ := e2
  cases ea
  rw [hH] at q2; cases q2
  have hbm : V.ref b ∈ us := List.mem_of_getElem? hu
  have Db : DA H (.ref a) b := ⟨a, us, rfl, hH, .inr hbm⟩
  have Fb : F b = none := (q5.mem hbm).1
  have nab : a ≠ b := fun z => by subst z; exact q3 hbm
  have hl : j < Θ.length := (List.getElem?_eq_some_iff.mp hj).1
  have at1 : ∀ {k : Nat} {yss : List (List PyData)}, (Θ.set j (some (.dw (xss.set i ys))))[k]? = some (some (.dw yss)) → (j = k ∧ yss = xss.set i ys) ∨ (j ≠ k ∧ Θ[k]? = some (some (.dw yss))) := fun {k yss} h => by
    rcases set_at2 h with ⟨e, z⟩ | z
    · cases z; exact .inl ⟨e, rfl⟩
    · exact .inr z
  have isdw : ∀ {k : Nat} {yss : List (List PyData)}, (Θ.set j (some (.dw (xss.set i ys))))[k]? = some (some (.dw yss)) → ∃ zss, Θ[k]? = some (some (.dw zss)) := fun {k yss} h => by
    rcases at1 h with ⟨rfl, _⟩ | ⟨_, z⟩
    · exact ⟨_, hj⟩
    · exact ⟨_, z⟩
  have root : ∀ {k : Nat} {zss : List (List PyData)} {w : V} {c : Addr}, Θ[k]? = some (some (.dw zss)) → σ[k]? = some (some w) → (DA (upd H b (.lst ws)) w c ↔ DA H w c) := fun {k zss w c} h1 h2 => by
    obtain ⟨w', f1, f2, _⟩ := E.dw k zss h1
    rw [h2] at f1; cases f1
    obtain ⟨r, rs, rfl, r1, r2, r3, _⟩ := f2
    have nr : r ≠ b := fun z => by
      subst z
      have := E.dd k j zss xss _ _ r h1 hj h2 hs ⟨r, rs, rfl, r2, .inl rfl⟩ Db
      subst this
      rw [hs] at h2; cases h2
      exact nab rfl
    constructor
    · rintro ⟨r', rs', e, f3, f4⟩
      cases e
      rw [upd_ne nr] at f3
      exact ⟨r, rs', rfl, f3, f4⟩
    · rintro ⟨r', rs', e, f3, f4⟩
      cases e
      exact ⟨r, rs', rfl, by rw [upd_ne nr]; exact f3, f4⟩
  have fh : Same F (upd H b (.lst ws)) := fun c o e => by rw [upd_ne (fun z => by rw [z, Fb] at e; cases e)]; exact E.en.fh c o e
  refine ⟨?_, fun k yss h => ?_, fun k l yss zss w z c h1 h2 h3 h4 h5 h6 => ?_, fun k l yss zs w c h1 h2 h3 h4 h5 => ?_⟩
  · rw [prj_set_none hj]
    refine ⟨fh, fun k s h => ?_, E.en.nw, E.en.ds, E.en.ln⟩
    obtain ⟨w, f1, f2⟩ := E.en.sl k s h
    refine ⟨w, f1, ?_⟩
    cases s with
    | fz d => exact f2
    | ow zs =>
      obtain ⟨c, vs, rfl, g1, g2, g3⟩ := f2
      refine ⟨c, vs, rfl, g1, ?_, g3⟩
      rw [upd_ne (fun z => by subst z; exact E.dx j k xss zs _ c hj (prj_at.mp h) hs f1 Db)]; exact g2
  · rcases at1 h with ⟨rfl, rfl⟩ | ⟨n, h'⟩
    · refine ⟨.ref a, hs, ⟨a, us, rfl, q1, by rw [upd_ne nab]; exact hH, q3, q4, q5.put hd q4 hu⟩, fun c hc => e3 c ((root hj hs).mp hc)⟩
    · obtain ⟨w, f1, f2, f3⟩ := E.dw k yss h'
      refine ⟨w, f1, f2.move (.refl _) fun c hc => ⟨?_, (f2.own hc).1⟩, fun c hc => f3 c ((root h' f1).mp hc)⟩
      rw [upd_ne (fun z => by subst z; exact n (E.dd j k xss yss _ _ c hj h' hs f1 Db hc))]
  · obtain ⟨p1, g1⟩ := isdw h1
    obtain ⟨p2, g2⟩ := isdw h2
    exact E.dd k l p1 p2 w z c g1 g2 h3 h4 ((root g1 h3).mp h5) ((root g2 h4).mp h6)
  · obtain ⟨p1, g1⟩ := isdw h1
    rcases set_at2 h2 with ⟨_, z⟩ | ⟨_, g2⟩
    · cases z
    · exact E.dx k l p1 zs w c g1 g2 h3 h4 ((root g1 h3).mp h5)
theorem StR2.put (R : StR2 K F0 H0 F H Θ σ) {i j : Nat} {a b : Addr} {us ws : List V} {xss : List (List PyData)} {ys : List PyData} (hj : Θ[j]? = some (some (.dw xss))) (hs : σ[j]? = some (some (.ref a))) (hH : H a = some (.lst us)) (hu : us[i]? = some (.ref b)) (hd : DpAll K F ws ys) :
    StR2 K F0 H0 F (upd H b (.lst ws)) (Θ.set j (some (.dw (xss.set i ys)))) σ := by
  have E := R.en.put hj hs hH hu hd
  obtain ⟨v, e1, e2, e3⟩ := R.en.dw j xss hj
  rw [hs] at e1; cases e1
  have hb : H0 b = none := e3 b ⟨a, us, rfl, hH, .inr (List.mem_of_getElem? hu)⟩
  refine ⟨E, R.su.f, fun c o e => ?_, E.en.fh, R.su.o⟩
  rw [upd_ne (ne_of_none e hb)]
  exact R.su.h c o e
theorem EnR2.set_fz {v : V} {d : PyData} (i : Nat) (E : EnR2 K H0 F H Θ σ) (hd : Dp K F v d) : EnR2 K H0 F H (Θ.set i (some (.sl (.fz d)))) (σ.set i (some v)) := by
  have E1 := E.wipe1 i (some v)
  have up : ∀ {j : Nat} {t : S2}, (Θ.set i (some (.sl (.fz d))))[j]? = some (some t) → t ≠ .sl (.fz d) → (Θ.set i none)[j]? = some (some t) := fun {j t} h n => by
    rcases set_at2 h with ⟨_, z⟩ | ⟨n', z⟩
    · cases z; exact absurd rfl n
    · rw [List.getElem?_set_ne n']; exact z
  refine ⟨?_, fun j xss h => E1.dw j xss (up h (by simp)), fun j k xss yss u w b h1 h2 h3 h4 h5 h6 => E1.dd j k xss yss u w b (up h1 (by simp)) (up h2 (by simp)) h3 h4 h5 h6, fun j k xss ys u b h1 h2 h3 h4 h5 => E1.dx j k xss ys u b (up h1 (by simp)) (up h2 (by simp)) h3 h4 h5⟩
  rw [prj_set]
  exact E.en.set_fz i hd
end
def appG (G : Nat → List PyData → List PyData) (xss : List (List PyData)) : List (List PyData) := (List.range xss.length).map fun k => G k (xss.getD k [])
section
variable {S : Sx}
end
end
end Bd
namespace Bd
open PySem L2
noncomputable section
section
variable {X : Cx}
theorem cr_range1 : CallR X (.type "range") (fun vs H Q => ∃ j : Int, vs = [V.int j] ∧ ∀ p, H p = none → Q (.ref p) (upd H p (.rng 0 j))) := by
  intro pins s σ H vs us Q I r h
  obtain ⟨j, rfl, q⟩ := h
  cases r with
  | cons r rr =>
    cases rr
    obtain ⟨t, rfl⟩ := r
    refine call_range_1 ?_
    exact ⟨.ref _, _, I.laid (t' := s.toks + 1 + 1) (o := .rng 0 j) (fun b ob q => Heap.get?_push_of_some _ q) (Nat.le_refl _) ⟨_, _, _, Heap.get?_push_size _ rfl⟩, rfl, q _ (I.hok.fresh (Nat.le_refl _))⟩
theorem vals_items {a : Int} : ∀ (n : Nat) (acc : List Value), acc.length = n → (∀ (j : Nat) v, acc[j]? = some v → ∃ t, v = .int (a + (j : Int) * 1) t) → Vals ((List.range n).map fun (k : Nat) => V.int (a + (k : Int))) acc := by
  intro n
  induction n with
  | zero => intro acc h _; cases acc with | nil => exact .nil | cons _ _ => cases h
  | succ n ih =>
    intro acc h hv
    rw [List.range_succ, List.map_append]
    obtain ⟨init, last, rfl⟩ : ∃ init last, acc = init ++ [last] := by
      have : acc ≠ [] := fun e => by rw [e] at h; cases h
      exact ⟨acc.dropLast, acc.getLast this, (List.dropLast_concat_getLast this).symm⟩
    have hl : init.length = n := by simpa using h
    refine Vals.append (ih init hl fun j v e => hv j v (by rw [List.getElem?_append_left (List.getElem?_eq_some_iff.mp e).1]; exact e)) (.cons ?_ .nil)
    obtain ⟨t, e⟩ := hv n last (by rw [List.getElem?_append_right (by omega), hl]; simp)
    exact ⟨t, by rw [e]; simp⟩
theorem cr_listRange (hc : X.calm = true) : CallR X (.type "list") (fun vs H Q => ∃ (a : Addr) (j : Int), vs = [V.ref a] ∧ H a = some (.rng 0 j) ∧ -(2 ^ 62) ≤ j ∧ j ≤ 65536 ∧ ∀ p, H p = none → Q (.ref p) (upd H p (.lst ((List.range j.toNat).map fun (k : Nat) => V.int (k : Int))))) := by
  intro pins s σ H vs us Q I r h
  obtain ⟨a, j, rfl, hs, h1, h2, q⟩ := h
  rw [Vals.ref1 r]
  obtain ⟨t, u, v, hr⟩ := I.hok a _ hs
  have hn : Builtin.Range.rangeSize 0 j 1 = (j.toNat : Nat) := by rw [rangeSize_one]; split <;> omega
  refine call_list_range (n := j.toNat) (I.ok.hd hc) hr (small_one (by omega) (by omega) h1 (by omega)) hn (by omega) fun h' tk acc' c' k hS it => ?_
  refine ⟨.ref _, _, I.laid (t' := tk) (o := .lst ((List.range j.toNat).map fun (k : Nat) => V.int (k : Int))) k (Nat.le_refl _) ⟨by rw [List.length_map, List.length_range]; exact Nat.le_trans (show j.toNat ≤ 65536 by omega) (by decide), acc'.toList, c', ?_, hS⟩, rfl, q _ (I.hok.fresh (Nat.le_refl _))⟩
  have := vals_items (a := 0) j.toNat acc'.toList (by rw [Array.length_toList]; exact it.1) fun i v e => it.2 i v (by rw [← Array.getElem?_toList]; exact e)
  simpa using this
end
section
variable {S : Sx}
def vListRange (f : En → Option PyData) : En → Option Sl := fun Γ => match f Γ with
  | some (.int j) => if -(big (2 ^ 60) : Int) ≤ j ∧ j ≤ (cap : Int) then some (.ow (rngD 0 j.toNat)) else none
  | _ => none
theorem se_listRange {e : Expr} {p1 p2 pos1 pos2 : Pos} {g} (ha : SL S e g) (hm1 : S.mg "list" = none) (hm2 : S.mg "range" = none) (hg1 : glB S.sc "list" = true := by kernel_rfl) (hg2 : glB S.sc "range" = true := by kernel_rfl)
    (he : ∀ X : Cx, starEach [e] X.env = (false, eval e X.env) :: starEach [] X.env := by intro _; rfl) (hpl : ∀ X : Cx, (backTo pos1 (starEach [] X.env)).any (·.1) = false := by intro _; rfl) (hpl2 : ∀ X : Cx, (backTo pos2 (starEach [] X.env)).any (·.1) = false := by intro _; rfl) :
    SE S (.Call (.Name "list" p1) [.Call (.Name "range" p2) [e] [] pos2] [] pos1) (vListRange g) := by
  obtain ⟨t, a1, a2⟩ := ha
  refine ⟨tCB (fun vs H Q => ∃ (a : Addr) (j : Int), vs = [V.ref a] ∧ H a = some (.rng 0 j) ∧ -(2 ^ 62) ≤ j ∧ j ≤ 65536 ∧ ∀ p, H p = none → Q (.ref p) (upd H p (.lst ((List.range j.toNat).map fun (k : Nat) => V.int (k : Int)))))
    (tCons (tCB (fun vs H Q => ∃ j : Int, vs = [V.int j] ∧ ∀ p, H p = none → Q (.ref p) (upd H p (.rng 0 j))) (tCons t tNil)) tNil), fun X ok => ?_, fun Γ σ H0 F H Q s E hf k => ?_⟩
  · refine pe_callTy (T := "list") (cr_listRange ok.calm) (ok.gl hg1) (by rw [ok.mg]; exact hm1) (by decide +kernel) (pa_cons ?_ pa_nil) (hpl := hpl X)
    exact pe_callTy (T := "range") cr_range1 (ok.gl hg2) (by rw [ok.mg]; exact hm2) (by decide +kernel) (pa_cons (a1 X ok) pa_nil (he X)) (he := he X) (hpl := hpl2 X)
  · unfold vListRange at hf
    split at hf
    · next j q =>
      split at hf
      · next hz =>
        cases hf
        rw [big_eq, cap_eq] at hz
        refine a2 Γ σ H0 F H _ _ E q fun v F1 H1 u1 l1 => ⟨j, by rw [l1.int], fun p hp => ?_⟩
        have u2 : Sub F1 H1 F1 (upd H1 p (.rng 0 j)) := .newO u1.fh hp
        refine ⟨p, j, rfl, upd_same, by omega, by omega, fun p' hp' => ?_⟩
        refine k _ F1 _ ((u1.trans u2).trans (.newO u2.fh hp')) ((SlN.lst u2.fh hp' ?_).weak (u1.trans u2).h)
        have := dpAll_ints (K := S.K) (H := F1) ((List.range j.toNat).map fun (k : Nat) => (k : Int))
        rw [List.map_map, List.map_map] at this
        rw [rng_map]
        exact this
      · cases hf
    · cases hf
def vSetD (i : Nat) (f : En → Option (List (List PyData))) : En2 → Option Out2 := fun Θ => if i < Θ.length then (f (vw Θ)).bind fun xss => if (xss.all fun xs => xs.all flatD) = true then some (.nx (Θ.set i (some (.dw xss)))) else none else none
end
end
end Bd
namespace Bd
open PySem L2
noncomputable section
section
variable {S : Sx}
def isNoneD : PyData → Bool
  | .none => true
  | _ => false
def pIsB (neg : Bool) (d e : PyData) : Option Sl := match d, e with
  | .bool a, .bool b => some (.fz (.bool (if neg then !(a == b) else (a == b))))
  | d, .none => some (.fz (.bool (if neg then !isNoneD d else isNoneD d)))
  | _, _ => none
theorem LkV.isNone {K : PySem.W.Frag} {F H : Hp} {v : V} {d : PyData} (h : LkV K F H v d) : decide (v = .non) = isNoneD d := by
  rcases h with h | ⟨a, vs, xs, rfl, rfl, _⟩
  · cases h <;> rfl
  · rfl
def oSetIx (i : Nat) (fi fe : En → Option PyData) : En → Option Out := fun Γ => match Γ[i]?, fi Γ, fe Γ with
  | some (some (.ow xs)), some (.int k), some d => (ixN xs.length k).map fun j => .nx (setE i (.ow (xs.set j d)) Γ)
  | _, _, _ => none
end
end
end Bd
namespace Bd
open PySem L2
open PyProof.Rows (AllBare)
noncomputable section
structure Fly (P : Program) (w : World) (outer : List Env) (H : Hp) (s : Shared) (C ea : Addr) (a0 : Value) (H' : Hp) (B : Heap) (s' : Shared) : Prop where
  os : s'.os = s.os
  bare : AllBare s'.gens
  kp : ∀ b o, s.heap.get? b = some o → H b = none → b ∉ frs outer → B.get? b = some o
  sl : ∀ b o, s.heap.get? b = some o → b ∈ frs outer → ∃ sl, s'.heap.get? b = some { o with slots := sl }
  fr : ∀ b o, s.heap.get? b = some o → H b = none → H' b = none
  th : ∀ b o, s.heap.get? b = some o → b ∉ frs outer → ∃ o', B.get? b = some o'
  tups : ∀ b xs, H b = some (.tup xs) → H' b = some (.tup xs)
  frzs : ∀ b o u, H b = some (.frz o u) → H' b = some (.frz o u)
  tbls : ∀ b ps, H b = some (.tbl ps) → ∃ more, H' b = some (.tbl (ps ++ more))
  hok : HOk P w H' B
  fly : Heap.FlyingW B outer ea (.ref C) a0 s'.heap
def CXE (P : Program) (w : World) : CXT := fun outer H s E e s' => ∃ ea C a0 H' B, e = .ref ea ∧ Fly P w outer H s C ea a0 H' B s' ∧ E (.ref C) none H'
section
variable {P : Program} {w : World} {outer : List Env} {H H' : Hp} {s s' : Shared} {C ea : Addr} {a0 : Value} {B : Heap}
theorem Fly.move (f : Fly P w outer H s C ea a0 H' B s') {h' : Heap} {t : Nat} (k : Heap.FlyingW B outer ea (.ref C) a0 h') (sm : s'.heap.UpToSlots h') : Fly P w outer H s C ea a0 H' B { s' with heap := h', toks := t } where
  os := f.os
  bare := f.bare
  kp := f.kp
  sl := fun b o e hb => by
    obtain ⟨sl, q⟩ := f.sl b o e hb
    obtain ⟨_, o2, q2, nf⟩ := f.fly.2.2.1.mem hb
    rw [q] at q2; cases q2
    obtain ⟨sl2, q3⟩ := sm b _ q nf
    exact ⟨sl2, q3⟩
  fr := f.fr
  th := f.th
  tups := f.tups
  frzs := f.frzs
  tbls := f.tbls
  hok := f.hok
  fly := k
theorem Fly.un (f : Fly P w outer H s C ea a0 H' B s') : Un (frs outer) [] H H' s.heap s'.heap where
  keep := fun b o e n hb _ => f.fly.1 b o (f.kp b o e n hb)
  slot := fun b o e _ hb _ => f.sl b o e hb
  free := fun b o e n _ => f.fr b o e n
  there := fun b o e _ => by
    by_cases hb : b ∈ frs outer
    · obtain ⟨sl, q⟩ := f.sl b o e hb; exact ⟨_, q⟩
    · obtain ⟨o', q⟩ := f.th b o e hb; exact ⟨o', f.fly.1 b o' q⟩
  tups := f.tups
  frzs := f.frzs
  tbls := f.tbls
end
structure IsCx (X : Cx) (E : XK) : Prop where
  st : X.stack = X.env :: X.outer
  fm : X.env.frame = some X.env.locals
  ex : X.ex = []
  xe : ∀ e s', wpAny (model X.prog X.w) X.A (leaving X.env e) (fun _ s'' => CXE X.prog X.w X.outer X.H_0 X.s_0 E e s'') (fun e' s'' => CXE X.prog X.w X.outer X.H_0 X.s_0 E e' s'') s' → X.xe e s'
abbrev veB : List Value := [.type "ValueError", .type "Exception", .type "BaseException", .type "object"]
structure ExcC (K : PySem.W.Frag) (mg : Str → Option Value) (x : Str) (C : Addr) : Prop where
  mg : mg x = some (.ref C)
  ex : PySem.W.excIn K C veB "ValueError.__new__" = true
end
end Bd
namespace Bd
open PySem L2
noncomputable section
abbrev OutX := Except Str Out
abbrev OutX2 := Except Str Out2
abbrev clsV (mg : Str → Option Value) (C : Str) : Value := (mg C).getD .none
def EndO (K : PySem.W.Frag) (F0 H0 : Hp) (D : Ends) : Out → Prop
  | .nx Γ => ∀ σ F H, StR K F0 H0 F H Γ σ → D.nx σ H
  | .bk Γ => ∀ σ F H, StR K F0 H0 F H Γ σ → D.bk σ H
  | .ct Γ => ∀ σ F H, StR K F0 H0 F H Γ σ → D.ct σ H
  | .rt s => ∀ v F H, Sub F0 H0 F H → SlN K H0 F H s v → D.rt v H
theorem EndO.r {K : PySem.W.Frag} {F0 H0 Hs : Hp} {T : List Nat} {Γ0 : En} {σ0 : St} {D : Ends} {o : Out} (k : EndO K F0 H0 D o) : EndR K F0 H0 T Γ0 σ0 Hs D o := by
  cases o with
  | nx Γ => exact fun σ F H R _ => k σ F H R
  | bk Γ => exact fun σ F H R _ => k σ F H R
  | ct Γ => exact fun σ F H R _ => k σ F H R
  | rt s => exact k
section
variable {S : Sx}
def xOk (g : En → Option Out) : En → Option OutX := fun Γ => (g Γ).map .ok
def xNil : En → Option OutX := fun Γ => some (.ok (.nx Γ))
def xSeq (g h : En → Option OutX) : En → Option OutX := fun Γ => match g Γ with
  | some (.ok (.nx Γ')) => h Γ'
  | r => r
def xIf (c : En → Option Bool) (g h : En → Option OutX) : En → Option OutX := fun Γ => match c Γ with
  | some true => g Γ
  | some false => h Γ
  | none => none
def xRaise (x : Str) (f : En → Option PyData) : En → Option OutX := fun Γ => (f Γ).map fun _ => .error x
def spX (K : PySem.W.Frag) (mg : Str → Option Value) (n : Nat) (m : List PyData → Option (Except Str S2)) : Sp := fun vs H Q E =>
  ∃ F ds r, Same F H ∧ ds.length = n ∧ DpAll K F vs ds ∧ m ds = some r ∧ match r with
    | .ok s => ∀ v F' H', Sub F H F' H' → S2N K H F' H' s v → Q v H'
    | .error C => ∀ F' H', Sub F H F' H' → E (clsV mg C) none H'
structure FnX (S : Sx) (x : Str) (ps : List Str) (m : List PyData → Option (Except Str S2)) : Prop where
  ex : ∃ (f : Addr) (fd : FuncData) (j : Nat), FnOk S.P S.w S.K S.mg S.base (CXE S.P S.w) j f fd ps (spX S.K S.mg ps.length m) ∧ j ≤ S.k ∧ S.mg x = some (.ref f) ∧ PySem.W.keepIn S.K (.ref f) = true ∧ Binds S.K fd ps []
def okD (m : List PyData → Option (Except Str S2)) : List PyData → Option Sl := fun ds => match m ds with
  | some (.ok (.sl s)) => some s
  | _ => none
def okDD (m : List PyData → Option (Except Str S2)) : List PyData → Option (List (List PyData)) := fun ds => match m ds with
  | some (.ok (.dw s)) => some s
  | _ => none
theorem fnX_calm {P : Program} {w : World} {K : PySem.W.Frag} {mg : Str → Option Value} {base : Heap} {j : Nat} {f : Addr} {fd : FuncData} {ps : List Str} {m : List PyData → Option (Except Str S2)} {sp : Sp} (F : FnOk P w K mg base (CXE P w) j f fd ps (spX K mg ps.length m))
    (h : ∀ vs H Q E, sp vs H Q E → spX K mg ps.length m vs H Q E0) : FnOk P w K mg base CX0 j f fd ps sp := by
  refine ⟨fun vs H Q E q => F.len vs H Q E0 (h _ _ _ _ q), fun A outer s H args us vs Q E hr e0 hb hv hs => ?_⟩
  refine codeAny_mono (F.run A outer s H args us vs Q E0 hr e0 hb hv (h _ _ _ _ hs)) fun r s' q => ?_
  cases r with
  | error e => obtain ⟨_, _, _, _, _, _, _, z⟩ := q; exact z.elim
  | ok fl => cases fl <;> exact q
theorem FnX.d {x : Str} {ps : List Str} {m} (G : FnX S x ps m) : FnD S x ps (okD m) := by
  obtain ⟨f, fd, j, F0, hj, hm, hk, hb⟩ := G.ex
  refine ⟨f, fd, j, fnX_calm F0 fun vs H Q E q => ?_, hj, hm, hk, hb⟩
  obtain ⟨F, ds, s, h1, h2, h3, h4, h5⟩ := q
  unfold okD at h4
  split at h4
  · next s' q => cases h4; exact ⟨F, ds, _, h1, h2, h3, q, h5⟩
  · cases h4
theorem FnX.dd {x : Str} {ps : List Str} {m} (G : FnX S x ps m) : FnDD S x ps (okDD m) := by
  obtain ⟨f, fd, j, F0, hj, hm, hk, hb⟩ := G.ex
  refine ⟨f, fd, j, fnX_calm F0 fun vs H Q E q => ?_, hj, hm, hk, hb⟩
  obtain ⟨F, ds, s, h1, h2, h3, h4, h5⟩ := q
  unfold okDD at h4
  split at h4
  · next s' q => cases h4; exact ⟨F, ds, _, h1, h2, h3, q, h5⟩
  · cases h4
def xCall (m : List PyData → Option (Except Str S2)) (g : En → Option (List PyData)) : En → Option OutX := fun Γ => match (g Γ).bind m with
  | some (.ok _) => some (.ok (.nx Γ))
  | some (.error C) => some (.error C)
  | none => none
def upE (Γ : En) : En2 := Γ.map (Option.map S2.sl)
theorem prj_up (Γ : En) : prj (upE Γ) = Γ := by
  unfold prj upE
  rw [List.map_map, show prj1 ∘ Option.map S2.sl = id from funext fun o => by cases o <;> rfl, List.map_id]
theorem EnR.up {K : PySem.W.Frag} {H0 F H : Hp} {Γ : En} {σ : St} (E : EnR K H0 F H Γ σ) : EnR2 K H0 F H (upE Γ) σ := by
  have no : ∀ {i : Nat} {xss : List (List PyData)}, (upE Γ)[i]? = some (some (.dw xss)) → False := fun {i xss} h => by
    unfold upE at h
    rw [List.getElem?_map] at h
    cases q : Γ[i]? with
    | none => rw [q] at h; cases h
    | some o => rw [q] at h; cases o <;> cases h
  exact ⟨by rw [prj_up]; exact E, fun i xss h => (no h).elim, fun i j xss yss v u b h => (no h).elim, fun i j xss ys v b h => (no h).elim⟩
theorem StR.up {K : PySem.W.Frag} {F0 H0 F H : Hp} {Γ : En} {σ : St} (R : StR K F0 H0 F H Γ σ) : StR2 K F0 H0 F H (upE Γ) σ := ⟨R.en.up, R.su⟩
def xSeq2 (g : En → Option OutX) (h : En → Option OutX2) : En → Option OutX2 := fun Γ => match g Γ with
  | some (.ok (.nx Γ')) => h Γ'
  | some (.ok (.rt s)) => some (.ok (.rt (.sl s)))
  | some (.error C) => some (.error C)
  | _ => none
def xTl2 (g : En2 → Option Out2) : En → Option OutX2 := fun Γ => (g (upE Γ)).map .ok
def xTl (g : En → Option Out) : En → Option OutX2 := fun Γ => match g Γ with
  | some (.nx Γ') => some (.ok (.nx (upE Γ')))
  | some (.rt s) => some (.ok (.rt (.sl s)))
  | _ => none
end
end
end Bd
namespace Bd
open PySem L2
open PyProof.Rows (AllBare)
noncomputable section
section
variable {X : Cx} {pins : List (Addr × Obj)} {σ : St} {H : Hp} {s : Shared} {ea : Addr} {oe : Obj}
end
structure HitC (K : PySem.W.Frag) (C D : Addr) (b : Bool) : Prop where
  ti : PySem.W.instIn K (.ref D) (.type "tuple") = some false
  cl : PySem.W.isClsIn K D = true
  ex : PySem.W.subIn K (.ref D) (.type "BaseException") = some true
  sb : PySem.W.subIn K (.ref C) (.ref D) = some b
def HdOk (X : Cx) (hs : List ExceptHandler) (C : Addr) (q : Ends → St → Hp → Prop) : Prop :=
  ∀ (pins : List (Addr × Obj)) (σ : St) (H : Hp) (s : Shared) (D : Ends) (H1 : Hp) (s1 : Shared) (B : Heap) (a0 : Value) (ea : Addr), Inv X pins σ H1 s1 → Fly X.prog X.w X.stack H1 s1 C ea a0 H B s → q D σ H →
    wpAny (model X.prog X.w) X.A (handleBy (.ref ea) X.env hs) (SP X pins D) X.xe s
end
end Bd
namespace Bd
open PySem L2 Builtin Builtin.ObjectAttr Builtin.Getset_descriptor
noncomputable section
structure XcCls (K : PySem.W.Frag) (C : Addr) : Prop where
  cl : PySem.W.isClsIn K C = true
  ga : PySem.W.findIn K (.ref C) "__getattribute__" = some (some (.builtin "BaseException.__getattribute__"))
  gt : PySem.W.findIn K (.ref C) "__getattr__" = some none
  ca : PySem.W.findIn K (.ref C) "__class__" = some (some (.builtin "object.__class__"))
  be : PySem.W.subIn K (.ref C) (.type "BaseException") = some true
  ob : PySem.W.subIn K (.ref C) (.type "object") = some true
section
variable {prog : Program} {w : World} {A : Around} {E : Value → Shared → Prop} {h : Heap} {g : Array GenState} {d : Drawn} {t : Nat} {os : OsState} {a C : Addr} {o : Obj} {K : PySem.W.Frag}
end
end
end Bd
namespace Bd
open PySem L2
noncomputable section
end
end Bd
namespace Bd
open PySem L2
noncomputable section
section
variable {S : Sx}
theorem HdOk.mono {X : Cx} {hs : List ExceptHandler} {C : Addr} {q q' : Ends → St → Hp → Prop} (h : HdOk X hs C q) (k : ∀ D σ H, σ.length = X.N.length → q' D σ H → q D σ H) : HdOk X hs C q' := fun pins σ H s D H1 s1 B a0 ea I1 f z => h pins σ H s D H1 s1 B a0 ea I1 f (k D σ H I1.len z)
inductive Nms (S : Sx) : List Expr → List Addr → Prop
  | nil : Nms S [] []
  | cons {x : Str} {p : Pos} {D : Addr} {es : List Expr} {ds : List Addr} : S.mg x = some (.ref D) → glB S.sc x = true → (x == ("__debug__" : Str)) = false → Nms S es ds → Nms S (.Name x p :: es) (D :: ds)
structure IsiC (K : PySem.W.Frag) (C B : Addr) (ds : List Addr) : Prop where
  b : PySem.W.kitOne K (.ref C) (.ref B) = some true
  v : PySem.W.kitOne K (.ref C) (.type "ValueError") = some true
  o : PySem.W.kitAny K (.ref C) (ds.map Value.ref) = some false
  c : XcCls K C
def xTry (m : List PyData → Option (Except Str S2)) (g : En → Option (List PyData)) (tb : List (Str × PyData)) : En → Option OutX := fun Γ => match (g Γ).bind m with
  | some (.ok _) => some (.ok (.nx Γ))
  | some (.error c) => (tb.lookup c).map fun d => .ok (.rt (.fz d))
  | none => none
end
end
end Bd
namespace Bd
open PySem L2
noncomputable section
def insD (xs : List PyData) (k : Nat) (d : PyData) : List PyData := xs.take k ++ d :: xs.drop k
section
variable {S : Sx}
def oIns (i : Nat) (fi fe : En → Option PyData) : En → Option Out := fun Γ => match Γ[i]?, fi Γ, fe Γ with
  | some (some (.ow xs)), some (.int k), some d => if 0 ≤ k ∧ k.toNat ≤ xs.length ∧ xs.length < cap then some (.nx (setE i (.ow (insD xs k.toNat d)) Γ)) else none
  | _, _, _ => none
end
end
end Bd
namespace L2
open PySem PySem.Spec PyProof.Rows Bd
section
variable {prog : Program} {w : World} {A : Around} {R : Result → Shared → Prop} {s : Shared} {elt t0 i0 t1 i1 : Expr} {ifs0 ifs1 : List Expr} {scope : Scope} {pos : Pos} {it acc : Value} {env : Env}
end
section
variable {prog : Program} {w : World} {A : Around} {E : Value → Shared → Prop} {s : Shared}
end
section
variable {prog : Program} {w : World} {A : Around} {R : Result → Shared → Prop} {s : Shared}
end
section
variable {X : Cx} {pins : List (Addr × Obj)} {σ : St} {H : Hp} {s : Shared}
end
section
variable {X : Cx}
end
end L2
namespace Bd
open PySem L2
noncomputable section
section
variable {S : Sx}
end
end
end Bd
namespace Bd
open PySem L2
noncomputable section
section
variable {S : Sx}
end
end
end Bd
namespace Com
open PySem L2 Bd
noncomputable section
section
variable {f g h : En → Option PyData} {Γ : En} {p q : PyData → PyData → Option Sl}
@[simp] theorem e_vChain : vChain p q f g h Γ = (f Γ).bind fun x => (g Γ).bind fun y => match p x y with
  | some (.fz (.bool true)) => (h Γ).bind fun z => q y z
  | some (.fz (.bool false)) => some (.fz (.bool false))
  | _ => none := id rfl
@[simp] theorem e_vNeg : vNeg f Γ = (match f Γ with | some (.int i) => some (.fz (.int (-i))) | _ => none) := id rfl
@[simp] theorem e_vRev : vRev f Γ = (match f Γ with | some (.list xs) => some (.ow xs.reverse) | _ => none) := id rfl
@[simp] theorem e_oInt : oInt f Γ = (match f Γ with | some (.int i) => some (some i) | _ => none) := id rfl
@[simp] theorem e_dSl {a b} : dSl f a b Γ = (match f Γ, a Γ, b Γ with | some (.list xs), some lo, some hi => some (.ow (cutD xs lo hi)) | _, _, _ => none) := id rfl
@[simp] theorem e_vNot {fs : En → Option Sl} : vNot fs Γ = (match fs Γ with | some (.fz (.bool b)) => some (.fz (.bool (!b))) | _ => none) := id rfl
@[simp] theorem e_vOr {fs gs : En → Option Sl} : vOr fs gs Γ = (match fs Γ with | some (.fz (.bool true)) => some (.fz (.bool true)) | some (.fz (.bool false)) => gs Γ | _ => none) := id rfl
@[simp] theorem e_vLc2 {fi u c fi1 u1 c1 fe vs vs1} : vLc2 fi u c fi1 u1 c1 fe vs vs1 Γ = (fi Γ).bind fun ds => (lcD2 u c fi1 u1 c1 fe vs1 (wipeE Γ vs) ds).bind fun out => if out.length < cap then some (.ow out) else none := id rfl
end
@[simp] theorem e_pNeB {a b : Bool} : pNe (.bool a) (.bool b) = some (.fz (.bool (!(a == b)))) := id rfl
@[simp] theorem e_pEqB {a b : Bool} : pEq (.bool a) (.bool b) = some (.fz (.bool (a == b))) := id rfl
theorem flat_nums (r : List Int) : (nums r).all flatD = true := by simp [flatD]
theorem pAll_bls (l : List Bool) : pAll [.list (l.map PyData.bool)] = some (.fz (.bool (l.all id))) := by
  unfold pAll
  dsimp only
  rw [toBls_map]; rfl
theorem lcD_map {α : Type} {gt : PyData → En → Option En} {fe : En → Option PyData} {Γ : En} (emb : α → PyData) (F : α → PyData) : ∀ (xs : List α), (∀ x ∈ xs, (gt (emb x) Γ).bind fe = some (F x)) → lcD gt bYes fe Γ (xs.map emb) = some (xs.map F)
  | [], _ => rfl
  | x :: xs, h => by
    have ih := lcD_map emb F xs fun y hy => h y (List.mem_cons_of_mem _ hy)
    have hx := h x List.mem_cons_self
    rw [List.map_cons, List.map_cons]
    unfold lcD
    cases q : gt (emb x) Γ with
    | none => rw [q] at hx; cases hx
    | some Γ1 =>
      rw [q, Option.bind_some] at hx
      rw [Option.bind_some, e_bYes, Option.bind_some, if_pos rfl, hx, Option.bind_some, ih]; rfl
theorem lcD_filter {α : Type} {gt : PyData → En → Option En} {c : En → Option Bool} {fe : En → Option PyData} {Γ : En} (emb : α → PyData) (p : α → Bool) (F : α → PyData) : ∀ (xs : List α), (∀ x ∈ xs, (gt (emb x) Γ).bind c = some (p x)) → (∀ x ∈ xs, p x = true → (gt (emb x) Γ).bind fe = some (F x)) → lcD gt c fe Γ (xs.map emb) = some ((xs.filter p).map F)
  | [], _, _ => rfl
  | x :: xs, hc, h => by
    have ih := lcD_filter emb p F xs (fun y hy => hc y (List.mem_cons_of_mem _ hy)) fun y hy => h y (List.mem_cons_of_mem _ hy)
    have hx := h x List.mem_cons_self
    have hcx := hc x List.mem_cons_self
    rw [List.map_cons]
    unfold lcD
    cases q : gt (emb x) Γ with
    | none => rw [q] at hcx; cases hcx
    | some Γ1 =>
      rw [q, Option.bind_some] at hx hcx
      rw [Option.bind_some, hcx, Option.bind_some]
      by_cases hp : p x = true
      · rw [if_pos hp, hx hp, Option.bind_some, ih, List.filter_cons, if_pos hp]; rfl
      · rw [if_neg hp, ih, List.filter_cons, if_neg hp]
theorem forD_all {α γ : Type} {gt : PyData → En → Option En} {body : En → Option Out} (emb : α → PyData) (I : γ → En) (p : α → Bool) (s : Sl) :
    ∀ (xs : List α) (y : γ), (∀ y, ∀ x ∈ xs, (p x = true → ∃ y', (gt (emb x) (I y)).bind body = some (.nx (I y'))) ∧ (p x = false → (gt (emb x) (I y)).bind body = some (.rt s))) →
    (xs.all p = true → ∃ y', forD gt body (xs.map emb) (I y) = some (.nx (I y'))) ∧ (xs.all p = false → forD gt body (xs.map emb) (I y) = some (.rt s))
  | [], y, _ => ⟨fun _ => ⟨y, rfl⟩, fun h => by cases h⟩
  | x :: xs, y, h => by
    have hx := h y x List.mem_cons_self
    rw [List.map_cons, List.all_cons]
    unfold forD
    cases hp : p x with
    | true =>
      obtain ⟨y', e⟩ := hx.1 hp
      have ih := forD_all emb I p s xs y' fun y z hz => h y z (List.mem_cons_of_mem _ hz)
      cases q : gt (emb x) (I y) with
      | none => rw [q] at e; cases e
      | some Γ1 =>
        rw [q, Option.bind_some] at e
        rw [Option.bind_some, e, Bool.true_and]
        exact ih
    | false =>
      have e := hx.2 hp
      cases q : gt (emb x) (I y) with
      | none => rw [q] at e; cases e
      | some Γ1 =>
        rw [q, Option.bind_some] at e
        rw [Option.bind_some, e, Bool.false_and]
        exact ⟨fun z => Bool.noConfusion z, fun _ => rfl⟩
end
end Com
namespace Com
open PySem L2 Bd
noncomputable section
@[simp] theorem e_prjN : prj [] = [] := id rfl
@[simp] theorem e_prj0 {l : En2} : prj (none :: l) = none :: prj l := id rfl
@[simp] theorem e_prjS {s : Sl} {l : En2} : prj (some (.sl s) :: l) = some s :: prj l := id rfl
@[simp] theorem e_prjD {x : List (List PyData)} {l : En2} : prj (some (.dw x) :: l) = none :: prj l := id rfl
@[simp] theorem e_vwN : vw [] = [] := id rfl
@[simp] theorem e_vw0 {l : En2} : vw (none :: l) = none :: vw l := id rfl
@[simp] theorem e_vwS {s : Sl} {l : En2} : vw (some (.sl s) :: l) = some s :: vw l := id rfl
@[simp] theorem e_vwD {x : List (List PyData)} {l : En2} : vw (some (.dw x) :: l) = some (.fz (.list (x.map PyData.list))) :: vw l := id rfl
@[simp] theorem e_mrgN : mrg [] [] = [] := id rfl
@[simp] theorem e_mrg0 {l : En2} {s : Option Sl} {g : En} : mrg (none :: l) (s :: g) = s.map S2.sl :: mrg l g := id rfl
@[simp] theorem e_mrgS {t : Sl} {l : En2} {s : Option Sl} {g : En} : mrg (some (.sl t) :: l) (s :: g) = s.map S2.sl :: mrg l g := id rfl
@[simp] theorem e_mrgD {x : List (List PyData)} {l : En2} {s : Option Sl} {g : En} : mrg (some (.dw x) :: l) (s :: g) = some (.dw x) :: mrg l g := id rfl
@[simp] theorem e_dwOkN {ds : List Nat} {k : Nat} : dwOk ds k [] = true := id rfl
@[simp] theorem e_dwOk0 {ds : List Nat} {k : Nat} {l : En2} : dwOk ds k (none :: l) = dwOk ds (k + 1) l := id rfl
@[simp] theorem e_dwOkS {ds : List Nat} {k : Nat} {s : Sl} {l : En2} : dwOk ds k (some (.sl s) :: l) = dwOk ds (k + 1) l := id rfl
@[simp] theorem e_dwOkD {ds : List Nat} {k : Nat} {x : List (List PyData)} {l : En2} : dwOk ds k (some (.dw x) :: l) = (ds.contains k && dwOk ds (k + 1) l) := id rfl
@[simp] theorem e_thwN {ts : List Nat} {k : Nat} : thw ts k [] [] = [] := id rfl
@[simp] theorem e_thw0 {ts : List Nat} {k : Nat} {l : En2} {s : Option Sl} {g : En} : thw ts k (none :: l) (s :: g) = (if ts.contains k = true then (match s with | some s' => if flatS s' = true then some (S2.sl s') else none | none => none) else none) :: thw ts (k + 1) l g := id rfl
@[simp] theorem e_thwS {ts : List Nat} {k : Nat} {t : Sl} {l : En2} {s : Option Sl} {g : En} : thw ts k (some (.sl t) :: l) (s :: g) = (if ts.contains k = true then (match s with | some s' => if flatS s' = true then some (S2.sl s') else none | none => none) else some (.sl t)) :: thw ts (k + 1) l g := id rfl
@[simp] theorem e_thwD {ts : List Nat} {k : Nat} {x : List (List PyData)} {l : En2} {s : Option Sl} {g : En} : thw ts k (some (.dw x) :: l) (s :: g) = some (.dw x) :: thw ts (k + 1) l g := id rfl
@[simp] theorem e_oNil2 {Θ : En2} : oNil2 Θ = some (.nx Θ) := id rfl
@[simp] theorem e_oSeq2 {g k : En2 → Option Out2} {Θ : En2} : oSeq2 g k Θ = (match g Θ with | some (.nx Θ') => k Θ' | r => r) := id rfl
@[simp] theorem e_lft {ds : List Nat} {g : En → Option Out} {Θ : En2} : lft ds g Θ = if dwOk ds 0 Θ = true then (match g (prj Θ) with | some (.nx Γ) => if Θ.length = Γ.length then some (.nx (mrg Θ Γ)) else none | some (.rt s) => some (.rt (.sl s)) | _ => none) else none := id rfl
@[simp] theorem e_vwG {ds ts : List Nat} {g : En → Option Out} {Θ : En2} : vwG ds ts g Θ = if dwOk ds 0 Θ = true then (match g (vw Θ) with | some (.nx Γ) => if Θ.length = Γ.length then some (.nx (thw ts 0 Θ Γ)) else none | some (.rt s) => if flatS s = true then some (.rt (.sl s)) else none | _ => none) else none := id rfl
@[simp] theorem e_oRetD {f : En → Option (List (List PyData))} {Θ : En2} : oRetD f Θ = (f (prj Θ)).map fun xss => .rt (.dw xss) := id rfl
@[simp] theorem e_oSetD {i : Nat} {f : En → Option (List (List PyData))} {Θ : En2} : oSetD i f Θ = if i < Θ.length then (f (prj Θ)).map fun xss => .nx (Θ.set i (some (.dw xss))) else none := id rfl
@[simp] theorem e_vSetD {i : Nat} {f : En → Option (List (List PyData))} {Θ : En2} : vSetD i f Θ = if i < Θ.length then (f (vw Θ)).bind fun xss => if (xss.all fun xs => xs.all flatD) = true then some (.nx (Θ.set i (some (.dw xss)))) else none else none := id rfl
@[simp] theorem e_callDD {p g} {Γ : En} : callDD p g Γ = (g Γ).bind p := id rfl
@[simp] theorem e_vLcD {fi u c fe vs} {Γ : En} : vLcD fi u c fe vs Γ = (fi Γ).bind fun ds => if ds.length < cap then lcDD u c fe (wipeE Γ vs) ds else none := id rfl
@[simp] theorem e_flatB {b : Bool} : flatS (.fz (.bool b)) = true := id rfl
@[simp] theorem e_flatI {b : Int} : flatS (.fz (.int b)) = true := id rfl
theorem getD_at {α : Type} {l : List α} {k : Nat} {d : α} (h : k < l.length) : l[k]? = some (l.getD k d) := by simp [List.getD, h]
abbrev ups (n : Nat) : List Int := (List.range n).map fun (k : Nat) => (k : Int)
theorem ups_len (n : Nat) : (ups n).length = n := by simp
theorem nums_ups (n : Nat) : nums (ups n) = (List.range n).map fun (k : Nat) => PyData.int (k : Int) := by simp [nums, ups]
theorem vListRange_nat {f : En → Option PyData} {Γ : En} {n : Nat} (h : f Γ = some (.int (n : Int))) (hn : n ≤ 65536) : vListRange f Γ = some (.ow (nums (ups n))) := by
  unfold vListRange
  rw [h]
  dsimp only
  rw [big_eq, cap_eq, if_pos (by omega), Int.toNat_natCast, rng_map, nums_ups]
end
end Com
namespace Com
open PySem L2 Bd
noncomputable section
end
end Com
namespace Com
open PySem L2 Bd
noncomputable section
section
variable {g h : En → Option OutX} {h2 : En → Option OutX2} {c : En → Option Bool} {f : En → Option PyData} {a : En → Option (List PyData)} {Γ : En} {m : List PyData → Option (Except Str S2)} {x : Str} {ds : List PyData}
@[simp] theorem e_xOk {o : En → Option Out} : xOk o Γ = (o Γ).map .ok := id rfl
@[simp] theorem e_xNil : xNil Γ = some (.ok (.nx Γ)) := id rfl
@[simp] theorem e_xSeq : xSeq g h Γ = (match g Γ with | some (.ok (.nx Γ')) => h Γ' | r => r) := id rfl
@[simp] theorem e_xIf : xIf c g h Γ = (match c Γ with | some true => g Γ | some false => h Γ | none => none) := id rfl
@[simp] theorem e_xRaise : xRaise x f Γ = (f Γ).map fun _ => .error x := id rfl
@[simp] theorem e_xCall : xCall m a Γ = (match (a Γ).bind m with | some (.ok _) => some (.ok (.nx Γ)) | some (.error C) => some (.error C) | none => none) := id rfl
@[simp] theorem e_xTry {tb : List (Str × PyData)} : xTry m a tb Γ = (match (a Γ).bind m with | some (.ok _) => some (.ok (.nx Γ)) | some (.error c) => (tb.lookup c).map fun d => .ok (.rt (.fz d)) | none => none) := id rfl
@[simp] theorem e_xSeq2 : xSeq2 g h2 Γ = (match g Γ with | some (.ok (.nx Γ')) => h2 Γ' | some (.ok (.rt s)) => some (.ok (.rt (.sl s))) | some (.error C) => some (.error C) | _ => none) := id rfl
@[simp] theorem e_xTl {o : En → Option Out} : xTl o Γ = (match o Γ with | some (.nx Γ') => some (.ok (.nx (upE Γ'))) | some (.rt s) => some (.ok (.rt (.sl s))) | _ => none) := id rfl
@[simp] theorem e_xTl2 {o : En2 → Option Out2} : xTl2 o Γ = (o (upE Γ)).map .ok := id rfl
@[simp] theorem e_upN : upE [] = [] := id rfl
@[simp] theorem e_upC {s : Option Sl} {l : En} : upE (s :: l) = s.map S2.sl :: upE l := id rfl
@[simp] theorem e_oIns {i : Nat} {fi fe : En → Option PyData} : oIns i fi fe Γ = (match Γ[i]?, fi Γ, fe Γ with | some (some (.ow xs)), some (.int k), some d => if 0 ≤ k ∧ k.toNat ≤ xs.length ∧ xs.length < cap then some (.nx (setE i (.ow (insD xs k.toNat d)) Γ)) else none | _, _, _ => none) := id rfl
end
def endd (R : List (List Int)) : List (List Int) := (List.range R.length).map fun (k : Nat) => R.getD k [] ++ [(k : Int)]
theorem app_nums (R : List (List Int)) : appG (fun (n : Nat) xs => xs ++ [PyData.int (n : Int)]) (R.map nums) = (endd R).map nums := by
  unfold appG endd
  rw [List.map_map, List.length_map]
  apply List.map_congr_left
  intro k hk
  have := List.mem_range.mp hk
  simp [List.getD, this]
end
end Com
namespace Com
open PySem L2 Bd
noncomputable section
def Ks (kvs : List (Key × V)) (l : List Int) : Prop := (∀ n : Int, (valV kvs (Sum.inl n)).isSome = true ↔ n ∈ l) ∧ kvs.length ≤ l.length
theorem putK_len (kvs : List (Key × V)) (k : Key) (v : V) : (putK kvs k v).length ≤ kvs.length + 1 := by
  unfold putK
  split
  · rw [List.length_map]; omega
  · rw [List.length_append, List.length_singleton]; exact Nat.le_refl _
theorem Ks.put {kvs : List (Key × V)} {l : List Int} (h : Ks kvs l) (n : Int) (v : V) : Ks (putK kvs (Sum.inl n) v) (l ++ [n]) := by
  refine ⟨fun m => ?_, ?_⟩
  · rw [valV_put, List.mem_append, List.mem_singleton]
    by_cases e : m = n
    · subst e; simp
    · rw [if_neg (fun z => e (Sum.inl.inj z)), h.1 m]
      constructor
      · exact .inl
      · rintro (z | z)
        · exact z
        · exact absurd z e
  · have := putK_len kvs (Sum.inl n) v
    have := h.2
    rw [List.length_append, List.length_singleton]; omega
theorem Ks.nil : Ks [] [] := ⟨fun n => by rw [valV_nil]; simp, Nat.le_refl _⟩
end
end Com
namespace Bd
open PySem L2
noncomputable section
structure SubX (a : Addr) (F H F' H' : Hp) : Prop where
  f : Same F F'
  h : ∀ b o, b ≠ a → H b = some o → H' b = some o
  fh : Same F' H'
  o : ∀ b o, H b = some o → F b = none → F' b = none
theorem SubX.trans {a : Addr} {F H F1 H1 F2 H2 : Hp} (u : SubX a F H F1 H1) (v : SubX a F1 H1 F2 H2) (h1 : ∃ o, H1 a = some o) : SubX a F H F2 H2 :=
  ⟨u.f.trans v.f, fun b o n e => v.h b o n (u.h b o n e), v.fh, fun b o e1 e2 => by
    by_cases c : b = a
    · subst c
      obtain ⟨o1, h1⟩ := h1
      exact v.o b o1 h1 (u.o b o e1 e2)
    · exact v.o b o (u.h b o c e1) (u.o b o e1 e2)⟩
theorem Sub.x {a : Addr} {F H F' H' : Hp} (u : Sub F H F' H') : SubX a F H F' H' := ⟨u.f, fun b o _ e => u.h b o e, u.fh, u.o⟩
theorem SubX.dom {a : Addr} {F H F' H' : Hp} (u : SubX a F H F' H') (ha : ∃ o, H' a = some o) {b : Addr} (e : H' b = none) : H b = none := by
  cases q : H b with
  | none => rfl
  | some o =>
    exfalso
    by_cases c : b = a
    · subst c
      obtain ⟨o1, h1⟩ := ha
      rw [e] at h1; cases h1
    · rw [u.h b o c q] at e; cases e
structure Gh (K : PySem.W.Frag) (H0 F H : Hp) (Γ : En) (σ : St) (i : Nat) (a : Addr) (g : List PyData) : Prop where
  si : σ[i]? = some (some (.ref a))
  gi : Γ[i]? = some none
  h0 : H0 a = none
  f0 : F a = none
  hv : ∃ vs, H a = some (.lst vs) ∧ DpAll K F vs g
  ap : ∀ (j : Nat) (xs : List PyData), Γ[j]? = some (some (.ow xs)) → σ[j]? = some (some (.ref a)) → False
section
variable {K : PySem.W.Frag} {F0 H0 F H F' H' : Hp} {Γ : En} {σ : St} {i : Nat} {a : Addr} {g g' : List PyData} {vs' : List V}
theorem Gh.here (G : Gh K H0 F H Γ σ i a g) : ∃ o, H a = some o := by
  obtain ⟨vs, h, _⟩ := G.hv
  exact ⟨_, h⟩
theorem EnR.monoX (E : EnR K H0 F H Γ σ) (G : Gh K H0 F H Γ σ i a g) (u : SubX a F H F' H') : EnR K H0 F' H' Γ σ := by
  refine ⟨u.fh, fun j s hj => ?_, E.nw, E.ds, E.ln⟩
  obtain ⟨v, h1, h2⟩ := E.sl j s hj
  refine ⟨v, h1, ?_⟩
  cases s with
  | fz d => exact dp_mono u.f h2
  | ow xs =>
    obtain ⟨b, vs, rfl, q1, q2, q3⟩ := h2
    have ne : b ≠ a := fun z => by subst z; exact G.ap j xs hj h1
    exact ⟨b, vs, rfl, u.o b _ q2 q1, u.h b _ ne q2, dpAll_mono u.f q3⟩
theorem Gh.next (G : Gh K H0 F H Γ σ i a g) (u : SubX a F H F' H') (hv : H' a = some (.lst vs')) (hd : DpAll K F' vs' g') : Gh K H0 F' H' Γ σ i a g' := by
  obtain ⟨o, h⟩ := G.here
  exact ⟨G.si, G.gi, G.h0, u.o a o h G.f0, ⟨vs', hv, hd⟩, G.ap⟩
theorem StR.monoX (R : StR K F0 H0 F H Γ σ) (G : Gh K H0 F H Γ σ i a g) (u : SubX a F H F' H') : StR K F0 H0 F' H' Γ σ := by
  refine ⟨R.en.monoX G u, R.su.f.trans u.f, fun b o e => ?_, u.fh, fun b o e1 e2 => ?_⟩
  · have ne : b ≠ a := fun z => by subst z; rw [G.h0] at e; cases e
    exact u.h b o ne (R.su.h b o e)
  · have ne : b ≠ a := fun z => by subst z; rw [G.h0] at e1; cases e1
    exact u.o b o (R.su.h b o e1) (R.su.o b o e1 e2)
theorem SlN.back {s : Sl} {v : V} {H1 : Hp} (u : SubX a F H F' H1) (ha : ∃ o, H1 a = some o) {F2 H2 : Hp} (l : SlN K H1 F2 H2 s v) : SlN K H F2 H2 s v := ⟨l.1, fun xs b e1 e2 => u.dom ha (l.2 xs b e1 e2)⟩
end
section
variable {S : Sx} {i : Nat}
def EX (S : Sx) (i : Nat) (e : Expr) (f : En → List PyData → Option (Sl × List PyData)) : Prop :=
  ∃ t : TE, (∀ X, S.Ok X → PE X e t) ∧ ∀ Γ σ H0 F H Q a g s g', EnR S.K H0 F H Γ σ → Gh S.K H0 F H Γ σ i a g → f Γ g = some (s, g') →
    (∀ v F' H' vs', SubX a F H F' H' → H' a = some (.lst vs') → DpAll S.K F' vs' g' → SlN S.K H F' H' s v → Q v H') → t σ H Q
def EXV (S : Sx) (i : Nat) (e : Expr) (f : En → List PyData → Option (PyData × List PyData)) : Prop :=
  ∃ t : TE, (∀ X, S.Ok X → PE X e t) ∧ ∀ Γ σ H0 F H Q a g d g', EnR S.K H0 F H Γ σ → Gh S.K H0 F H Γ σ i a g → f Γ g = some (d, g') →
    (∀ v F' H' vs', SubX a F H F' H' → H' a = some (.lst vs') → DpAll S.K F' vs' g' → Dp S.K F' v d → Q v H') → t σ H Q
def xP (f : En → Option Sl) : En → List PyData → Option (Sl × List PyData) := fun Γ g => (f Γ).map fun s => (s, g)
def xPV (f : En → Option PyData) : En → List PyData → Option (PyData × List PyData) := fun Γ g => (f Γ).map fun s => (s, g)
theorem SE.x {e : Expr} {f} (h : SE S e f) : EX S i e (xP f) := by
  obtain ⟨t, a1, a2⟩ := h
  refine ⟨t, a1, fun Γ σ H0 F H Q a g s g' E G hf k => ?_⟩
  unfold xP at hf
  cases q : f Γ with
  | none => rw [q] at hf; cases hf
  | some s' =>
    rw [q] at hf; cases hf
    obtain ⟨vs, h1, h2⟩ := G.hv
    exact a2 Γ σ H0 F H _ _ E q fun v F' H' u l => k v F' H' vs u.x (u.h _ _ h1) (dpAll_mono u.f h2) l
theorem SV.x {e : Expr} {f} (h : SV S e f) : EXV S i e (xPV f) := by
  obtain ⟨t, a1, a2⟩ := h
  refine ⟨t, a1, fun Γ σ H0 F H Q a g s g' E G hf k => ?_⟩
  unfold xPV at hf
  cases q : f Γ with
  | none => rw [q] at hf; cases hf
  | some s' =>
    rw [q] at hf; cases hf
    obtain ⟨vs, h1, h2⟩ := G.hv
    exact a2 Γ σ H0 F H _ _ E q fun v F' H' u l => k v F' H' vs u.x (u.h _ _ h1) (dpAll_mono u.f h2) l
def xV (f : En → List PyData → Option (Sl × List PyData)) : En → List PyData → Option (PyData × List PyData) := fun Γ g => (f Γ g).map fun p => (p.1.d, p.2)
theorem EX.v {e : Expr} {f} (h : EX S i e f) : EXV S i e (xV f) := by
  obtain ⟨t, a1, a2⟩ := h
  refine ⟨t, a1, fun Γ σ H0 F H Q a g d g' E G hf k => ?_⟩
  unfold xV at hf
  cases q : f Γ g with
  | none => rw [q] at hf; cases hf
  | some p =>
    obtain ⟨s, g1⟩ := p
    rw [q] at hf; cases hf
    refine a2 Γ σ H0 F H _ a g s _ E G q fun v F' H' vs' u hv hd l => ?_
    cases s with
    | fz d => exact k v F' H' vs' u hv hd l.1
    | ow xs =>
      obtain ⟨⟨b, vs, rfl, r1, r2, r3⟩, r4⟩ := l
      have hb := r4 xs b rfl rfl
      refine k _ (upd F' b (.lst vs)) H' vs' ⟨u.f.trans (same_new r1), u.h, fun c o e => ?_, fun c o e1 e2 => ?_⟩ hv (dpAll_mono (same_new r1) hd) (.lst (SqL.of upd_same) (dpAll_mono (same_new r1) r3))
      · by_cases hc : c = b
        · subst hc; rw [upd_same] at e; cases e; exact r2
        · rw [upd_ne hc] at e; exact u.fh c o e
      · rw [upd_ne (ne_of_none e1 hb)]; exact u.o c o e1 e2
def xFz (f : En → List PyData → Option (PyData × List PyData)) : En → List PyData → Option (Sl × List PyData) := fun Γ g => (f Γ g).map fun p => (.fz p.1, p.2)
theorem EXV.e {e : Expr} {f} (h : EXV S i e f) : EX S i e (xFz f) := by
  obtain ⟨t, a1, a2⟩ := h
  refine ⟨t, a1, fun Γ σ H0 F H Q a g s g' E G hf k => ?_⟩
  unfold xFz at hf
  cases q : f Γ g with
  | none => rw [q] at hf; cases hf
  | some p =>
    obtain ⟨d, g1⟩ := p
    rw [q] at hf; cases hf
    exact a2 Γ σ H0 F H _ a g d _ E G q fun v F' H' vs' u hv hd l => k v F' H' vs' u hv hd ⟨l, fun _ _ z => by cases z⟩
def x2 (p : PyData → PyData → Option Sl) (f h : En → List PyData → Option (PyData × List PyData)) : En → List PyData → Option (Sl × List PyData) := fun Γ g =>
  (f Γ g).bind fun x => (h Γ x.2).bind fun y => (p x.1 y.1).map fun s => (s, y.2)
theorem xop2 {op : Value → Value → Sem Value} {ea eb : Expr} {p fa fb} (ho : OpS S op p) (ha : EXV S i ea fa) (hb : EXV S i eb fb) : ∃ (r : R2) (ta tb : TE), (∀ X, S.Ok X → OpR X op r) ∧ (∀ X, S.Ok X → PE X ea ta) ∧ (∀ X, S.Ok X → PE X eb tb) ∧
    ∀ Γ σ H0 F H Q a g s g', EnR S.K H0 F H Γ σ → Gh S.K H0 F H Γ σ i a g → x2 p fa fb Γ g = some (s, g') → (∀ v F' H' vs', SubX a F H F' H' → H' a = some (.lst vs') → DpAll S.K F' vs' g' → SlN S.K H F' H' s v → Q v H') → tOp r ta tb σ H Q := by
  obtain ⟨r, o1, o2⟩ := ho
  obtain ⟨ta, a1, a2⟩ := ha
  obtain ⟨tb, b1, b2⟩ := hb
  refine ⟨r, ta, tb, o1, a1, b1, fun Γ σ H0 F H Q a g s g' E G hf k => ?_⟩
  unfold x2 at hf
  cases q : fa Γ g with
  | none => rw [q] at hf; cases hf
  | some x =>
    obtain ⟨d, g1⟩ := x
    rw [q, Option.bind_some] at hf
    cases q2 : fb Γ g1 with
    | none => rw [q2] at hf; cases hf
    | some y =>
      obtain ⟨e', g2⟩ := y
      rw [q2, Option.bind_some] at hf
      cases q3 : p d e' with
      | none => rw [q3] at hf; cases hf
      | some s1 =>
        rw [q3] at hf; cases hf
        refine a2 Γ σ H0 F H _ a g d g1 E G q fun v F1 H1 vs1 u1 hv1 hd1 l1 => ?_
        refine b2 Γ σ H0 F1 H1 _ a g1 e' _ (E.monoX G u1) (G.next u1 hv1 hd1) q2 fun v2 F2 H2 vs2 u2 hv2 hd2 l2 => ?_
        refine o2 F2 H2 v v2 d e' Q _ u2.fh (.inl (dp_mono u2.f l1)) (.inl l2) q3 fun v3 F3 H3 u3 l3 => ?_
        have u12 := u1.trans u2 ⟨_, hv1⟩
        exact k v3 F3 H3 vs2 (u12.trans u3.x ⟨_, hv2⟩) (u3.h _ _ hv2) (dpAll_mono u3.f hd2) (l3.back u12 ⟨_, hv2⟩)
theorem ex_bin {op : Operator} {ea eb : Expr} {pos p fa fb} (ho : OpS S (binaryOp op) p) (ha : EXV S i ea fa) (hb : EXV S i eb fb) : EX S i (.BinOp ea op eb pos) (x2 p fa fb) := by
  obtain ⟨r, ta, tb, h1, h2, h3, h4⟩ := xop2 ho ha hb
  exact ⟨_, fun X ok => pe_op (h1 X ok) (h2 X ok) (h3 X ok), h4⟩
def TX (S : Sx) (i : Nat) (e : Expr) (f : En → List PyData → Option (Bool × List PyData)) : Prop :=
  ∃ t : TT, (∀ X, S.Ok X → PT X e t) ∧ ∀ Γ σ H0 F H Q a g b g', EnR S.K H0 F H Γ σ → Gh S.K H0 F H Γ σ i a g → f Γ g = some (b, g') →
    (∀ F' H' vs', SubX a F H F' H' → H' a = some (.lst vs') → DpAll S.K F' vs' g' → Q b H') → t σ H Q
def xB (f : En → List PyData → Option (Sl × List PyData)) : En → List PyData → Option (Bool × List PyData) := fun Γ g => match f Γ g with
  | some (.fz (.bool b), g') => some (b, g')
  | _ => none
theorem tx_cmp {op : CmpOp} {ea eb : Expr} {pos p fa fb} (ho : OpS S (compareOp op) p) (ha : EXV S i ea fa) (hb : EXV S i eb fb) (hm : behindInMarks op eb = false) : TX S i (.Compare ea [op] [eb] pos) (xB (x2 p fa fb)) := by
  obtain ⟨r, ta, tb, h1, h2, h3, h4⟩ := xop2 ho ha hb
  refine ⟨_, fun X ok => pt_cmpR (h1 X ok) (h2 X ok) (h3 X ok) hm, fun Γ σ H0 F H Q a g c g' E G hf k => ?_⟩
  unfold xB at hf
  split at hf
  · next b g1 q =>
    cases hf
    refine h4 Γ σ H0 F H _ a g _ _ E G q fun v F' H' vs' u hv hd l => ?_
    cases l.1
    exact ⟨_, rfl, k F' H' vs' u hv hd⟩
  · cases hf
def xPB (f : En → Option Bool) : En → List PyData → Option (Bool × List PyData) := fun Γ g => (f Γ).map fun s => (s, g)
theorem ST.x {e : Expr} {f} (h : ST S e f) : TX S i e (xPB f) := by
  obtain ⟨t, a1, a2⟩ := h
  refine ⟨t, a1, fun Γ σ H0 F H Q a g s g' E G hf k => ?_⟩
  unfold xPB at hf
  cases q : f Γ with
  | none => rw [q] at hf; cases hf
  | some s' =>
    rw [q] at hf; cases hf
    obtain ⟨vs, h1, h2⟩ := G.hv
    exact a2 Γ σ H0 F H _ _ E q fun F' H' u => k F' H' vs u.x (u.h _ _ h1) (dpAll_mono u.f h2)
def xGix (k : En → Option PyData) : En → List PyData → Option (PyData × List PyData) := fun Γ g => match k Γ with
  | some (.int j) => (atI g j).map fun d => (d, g)
  | _ => none
theorem ex_gix {x : Str} {p pos : Pos} {ek : Expr} {fk} (hk : SL S ek fk) (hN : S.N[i]? = some x := by rfl) (hv : visB S.sc x = true := by kernel_rfl) (hd : (x == ("__debug__" : Str)) = false := by decide) (hcd : (x == ("__classdict__" : Str)) = false := by decide)
    (hs : NoSl ek := by intro _ _; rfl) : EXV S i (.Subscript (.Name x p) ek pos) (xGix fk) := by
  obtain ⟨t, a1, a2⟩ := hk
  refine ⟨tOp (rIxL S.K) (tVar i) t, fun X ok => ok.K ▸ pe_ix ix_list (pe_var (by rw [ok.N]; exact hN) (by rw [ok.sc]; exact vis_of hv) hd hcd) (a1 X ok) hs, fun Γ σ H0 F H Q a g d g' E G hf k => ?_⟩
  unfold xGix at hf
  split at hf
  · next j q =>
    cases q2 : atI g j with
    | none => rw [q2] at hf; cases hf
    | some d' =>
      rw [q2] at hf; cases hf
      refine ⟨_, G.si, a2 Γ σ H0 F H _ _ E q fun v F' H' u l => ?_⟩
      obtain ⟨vs, h1, h2⟩ := G.hv
      obtain ⟨w, e1, e2⟩ := atI_dp (dpAll_mono u.f h2) q2
      rw [l.int]
      exact ⟨a, vs, j, w, rfl, rfl, SqL.of (u.h _ _ h1), e1, k w F' H' vs u.x (u.h _ _ h1) (dpAll_mono u.f h2) e2⟩
  · cases hf
end
end
end Bd
namespace Bd
open PySem L2
noncomputable section
inductive OutM where
  | nx (Γ : En) (g : List PyData) | rt (s : Sl) (g : List PyData) | bk (Γ : En) (g : List PyData) | ct (Γ : En) (g : List PyData)
def EndM (K : PySem.W.Frag) (F0 H0 : Hp) (i : Nat) (a : Addr) (D : Ends) : OutM → Prop
  | .nx Γ g => ∀ σ F H, StR K F0 H0 F H Γ σ → Gh K H0 F H Γ σ i a g → D.nx σ H
  | .bk Γ g => ∀ σ F H, StR K F0 H0 F H Γ σ → Gh K H0 F H Γ σ i a g → D.bk σ H
  | .ct Γ g => ∀ σ F H, StR K F0 H0 F H Γ σ → Gh K H0 F H Γ σ i a g → D.ct σ H
  | .rt s g => ∀ v F H vs, Sub F0 H0 F H → F a = none → H a = some (.lst vs) → DpAll K F vs g → SlN K H0 F H s v → (∀ xs b, s = .ow xs → v = .ref b → b ≠ a) → D.rt v H
abbrev GM := En → List PyData → Option OutM
def SM (S : Sx) (i : Nat) (st : Stmt) (g : GM) : Prop :=
  ∃ t : TS, (∀ X, S.Ok X → PS X st t) ∧ ∀ F0 H0 F H Γ σ D a l o, StR S.K F0 H0 F H Γ σ → Gh S.K H0 F H Γ σ i a l → g Γ l = some o → EndM S.K F0 H0 i a D o → t D σ H
def SMs (S : Sx) (i : Nat) (sts : List Stmt) (g : GM) : Prop :=
  ∃ t : TS, (∀ X, S.Ok X → PSs X sts t) ∧ ∀ F0 H0 F H Γ σ D a l o, StR S.K F0 H0 F H Γ σ → Gh S.K H0 F H Γ σ i a l → g Γ l = some o → EndM S.K F0 H0 i a D o → t D σ H
section
variable {S : Sx} {i : Nat}
def mNil : GM := fun Γ l => some (.nx Γ l)
def mSeq (g h : GM) : GM := fun Γ l => match g Γ l with
  | some (.nx Γ' l') => h Γ' l'
  | r => r
theorem sm_nil : SMs S i [] mNil := ⟨tNext, fun X _ => pss_nil, fun F0 H0 F H Γ σ D a l o R G hg k => by cases hg; exact k σ F H R G⟩
theorem sm_cons {st : Stmt} {rest : List Stmt} {g h} (h1 : SM S i st g) (h2 : SMs S i rest h) : SMs S i (st :: rest) (mSeq g h) := by
  obtain ⟨t, a1, a2⟩ := h1
  obtain ⟨u, b1, b2⟩ := h2
  refine ⟨tSeq t u, fun X ok => pss_cons (a1 X ok) (b1 X ok), fun F0 H0 F H Γ σ D a l o R G hg k => ?_⟩
  unfold mSeq at hg
  cases q : g Γ l with
  | none => rw [q] at hg; cases hg
  | some o1 =>
    rw [q] at hg
    refine a2 F0 H0 F H Γ σ _ a l o1 R G q ?_
    cases o1 with
    | nx Γ' l' => exact fun σ1 F1 H1 R1 G1 => b2 F0 H0 F1 H1 Γ' σ1 D a l' o R1 G1 hg k
    | rt s l' => cases hg; exact k
    | bk Γ' l' => cases hg; exact k
    | ct Γ' l' => cases hg; exact k
def mLft (g : En → Option Out) : GM := fun Γ l => match g Γ with
  | some (.nx Γ') => some (.nx Γ' l)
  | some (.rt s) => some (.rt s l)
  | some (.bk Γ') => some (.bk Γ' l)
  | some (.ct Γ') => some (.ct Γ' l)
  | none => none
theorem lift_st {K : PySem.W.Frag} {F0 H0 F H : Hp} {Γ : En} {σ : St} {a : Addr} {l : List PyData} {vs : List V} (R : StR K F0 H0 F H Γ σ) (G : Gh K H0 F H Γ σ i a l) (hv : H a = some (.lst vs)) : StR K F (upd H0 a (.lst vs)) F H Γ σ := by
  refine ⟨⟨R.en.fh, R.en.sl, fun j xs b h1 h2 => ?_, R.en.ds, R.en.ln⟩, .refl _, fun b o e => ?_, R.en.fh, fun b o _ e => e⟩
  · rw [upd_ne (fun z => by subst z; exact G.ap j xs h1 h2)]
    exact R.en.nw j xs b h1 h2
  · by_cases c : b = a
    · subst c; rw [upd_same] at e; cases e; exact hv
    · rw [upd_ne c] at e; exact R.su.h b o e
theorem lift_back {K : PySem.W.Frag} {F0 H0 F H F' H' : Hp} {Γ Γ' : En} {σ σ' : St} {a : Addr} {l : List PyData} {vs : List V} (R : StR K F0 H0 F H Γ σ) (G : Gh K H0 F H Γ σ i a l) (hv : H a = some (.lst vs)) (hd : DpAll K F vs l) (R' : StR K F (upd H0 a (.lst vs)) F' H' Γ' σ') (h1 : σ'[i]? = σ[i]?) (h2 : Γ'[i]? = Γ[i]?) : StR K F0 H0 F' H' Γ' σ' ∧ Gh K H0 F' H' Γ' σ' i a l := by
  have nm : ∀ b o, H0 b = some o → upd H0 a (.lst vs) b = some o := fun b o e => by
    rw [upd_ne (fun z => by subst z; rw [G.h0] at e; cases e)]; exact e
  have nn : ∀ b, upd H0 a (.lst vs) b = none → H0 b = none := fun b e => by
    cases q : H0 b with
    | none => rfl
    | some o => rw [nm b o q] at e; cases e
  refine ⟨⟨⟨R'.en.fh, R'.en.sl, fun j xs b e1 e2 => nn b (R'.en.nw j xs b e1 e2), R'.en.ds, R'.en.ln⟩, R.su.f.trans R'.su.f, fun b o e => R'.su.h b o (nm b o e), R'.su.fh, fun b o e1 e2 => R'.su.o b o (nm b o e1) (R.su.o b o e1 e2)⟩, by rw [h1]; exact G.si, by rw [h2]; exact G.gi, G.h0, R'.su.o a _ upd_same G.f0, ⟨vs, R'.su.h a _ upd_same, dpAll_mono R'.su.f hd⟩, fun j xs e1 e2 => ?_⟩
  have := R'.en.nw j xs a e1 e2
  rw [upd_same] at this; cases this
theorem sm_lift {st : Stmt} {T : List Nat} {g} (h : SS S st T g) (hi : i ∉ T) : SM S i st (mLft g) := by
  obtain ⟨t, a1, a2⟩ := h
  refine ⟨t, a1, fun F0 H0 F H Γ σ D a l o R G hg k => ?_⟩
  obtain ⟨vs, hv, hd⟩ := G.hv
  unfold mLft at hg
  cases q : g Γ with
  | none => rw [q] at hg; cases hg
  | some o1 =>
    rw [q] at hg
    refine a2 F (upd H0 a (.lst vs)) F H Γ σ D o1 (lift_st R G hv) q ?_
    cases o1 with
    | nx Γ' => cases hg; exact fun σ' F' H' R' kp => (lift_back R G hv hd R' (kp i hi).2.1 (kp i hi).1).elim fun R2 G2 => k σ' F' H' R2 G2
    | bk Γ' => cases hg; exact fun σ' F' H' R' kp => (lift_back R G hv hd R' (kp i hi).2.1 (kp i hi).1).elim fun R2 G2 => k σ' F' H' R2 G2
    | ct Γ' => cases hg; exact fun σ' F' H' R' kp => (lift_back R G hv hd R' (kp i hi).2.1 (kp i hi).1).elim fun R2 G2 => k σ' F' H' R2 G2
    | rt s =>
      cases hg
      intro v F' H' u l'
      have nm : ∀ b o, H0 b = some o → upd H0 a (.lst vs) b = some o := fun b o e => by
        rw [upd_ne (fun z => by subst z; rw [G.h0] at e; cases e)]; exact e
      refine k v F' H' vs ⟨R.su.f.trans u.f, fun b o e => u.h b o (nm b o e), u.fh, fun b o e1 e2 => u.o b o (nm b o e1) (R.su.o b o e1 e2)⟩ (u.o a _ upd_same G.f0) (u.h a _ upd_same) (dpAll_mono u.f hd) ⟨l'.1, fun xs b e1 e2 => ?_⟩ fun xs b e1 e2 z => ?_
      · have := l'.2 xs b e1 e2
        cases q3 : H0 b with
        | none => rfl
        | some o => rw [nm b o q3] at this; cases this
      · have := l'.2 xs b e1 e2
        rw [z, upd_same] at this; cases this
def mIf (c : En → List PyData → Option (Bool × List PyData)) (g h : GM) : GM := fun Γ l => match c Γ l with
  | some (true, l') => g Γ l'
  | some (false, l') => h Γ l'
  | none => none
theorem sm_if {c : Expr} {x y : List Stmt} {pos : Pos} {f g h} (hc : TX S i c f) (ha : SMs S i x g) (hb : SMs S i y h) : SM S i (.If c x y pos) (mIf f g h) := by
  obtain ⟨t, c1, c2⟩ := hc
  obtain ⟨u, a1, a2⟩ := ha
  obtain ⟨v, b1, b2⟩ := hb
  refine ⟨tIfS t u v, fun X ok => ps_if (c1 X ok) (a1 X ok) (b1 X ok), fun F0 H0 F H Γ σ D a l o R G hg k => ?_⟩
  unfold mIf at hg
  split at hg
  · next l' q => exact c2 Γ σ H0 F H _ a l true l' R.en G q fun F1 H1 vs1 u1 hv hd => iteT (a2 F0 H0 F1 H1 Γ σ D a l' o (R.monoX G u1) (G.next u1 hv hd) hg k)
  · next l' q => exact c2 Γ σ H0 F H _ a l false l' R.en G q fun F1 H1 vs1 u1 hv hd => iteF (b2 F0 H0 F1 H1 Γ σ D a l' o (R.monoX G u1) (G.next u1 hv hd) hg k)
  · cases hg
def mRet (f : En → List PyData → Option (Sl × List PyData)) : GM := fun Γ l => (f Γ l).map fun p => .rt p.1 p.2
theorem sm_ret {e : Expr} {pos f} (h : EX S i e f) : SM S i (.Return (some e) pos) (mRet f) := by
  obtain ⟨t, a1, a2⟩ := h
  refine ⟨tRet t, fun X ok => ps_ret (a1 X ok), fun F0 H0 F H Γ σ D a l o R G hg k => ?_⟩
  unfold mRet at hg
  cases q : f Γ l with
  | none => rw [q] at hg; cases hg
  | some p =>
    obtain ⟨s, l'⟩ := p
    rw [q] at hg; cases hg
    refine a2 Γ σ H0 F H _ a l s l' R.en G q fun v F' H' vs' u hv hd m => ?_
    have R' := R.monoX G u
    have G' := G.next u hv hd
    refine k v F' H' vs' R'.su G'.f0 hv hd ⟨m.1, fun xs b e1 e2 => R.su.h.free (m.2 xs b e1 e2)⟩ fun xs b e1 e2 z => ?_
    have := m.2 xs b e1 e2
    obtain ⟨o, h⟩ := G.here
    rw [z, h] at this; cases this
theorem EnR.set_slX {K : PySem.W.Frag} {H0 F H : Hp} {Γ : En} {σ : St} {v : V} {s : Sl} (i : Nat) (E : EnR K H0 F H Γ σ) (h : SlV K F H s v) (h0 : ∀ xs b, s = .ow xs → v = .ref b → H0 b = none) (hn : ∀ xs b, s = .ow xs → v = .ref b → ∀ (j : Nat) (ys : List PyData), Γ[j]? = some (some (.ow ys)) → σ[j]? = some (some (.ref b)) → False) : EnR K H0 F H (setE i s Γ) (σ.set i (some v)) := by
  have ln := E.ln
  refine ⟨E.fh, fun j s' hj => ?_, fun j xs b h1 h2 => ?_, fun j k xs ys b h1 h2 h3 h4 => ?_, by unfold setE; rw [List.length_set, List.length_set]; exact ln⟩
  · unfold setE at hj
    rw [List.getElem?_set] at hj ⊢
    split at hj
    · next e =>
      split at hj
      · cases hj
        exact ⟨v, by rw [if_pos e, if_pos (by omega)], h⟩
      · cases hj
    · next e => rw [if_neg e]; exact E.sl j s' hj
  · unfold setE at h1
    rw [List.getElem?_set] at h1 h2
    split at h1
    · next e =>
      rw [if_pos e] at h2
      split at h1
      · cases h1
        split at h2
        · cases h2; exact h0 xs b rfl rfl
        · cases h2
      · cases h1
    · next e => rw [if_neg e] at h2; exact E.nw j xs b h1 h2
  · unfold setE at h1 h2
    rw [List.getElem?_set] at h1 h2 h3 h4
    by_cases e : i = j
    · by_cases e' : i = k
      · exact e.symm.trans e'
      · exfalso
        rw [if_pos e] at h1 h3
        rw [if_neg e'] at h2 h4
        split at h1
        · cases h1
          split at h3
          · cases h3; exact hn xs b rfl rfl k ys h2 h4
          · cases h3
        · cases h1
    · by_cases e' : i = k
      · exfalso
        rw [if_neg e] at h1 h3
        rw [if_pos e'] at h2 h4
        split at h2
        · cases h2
          split at h4
          · cases h4; exact hn ys b rfl rfl j xs h1 h3
          · cases h4
        · cases h2
      · rw [if_neg e] at h1 h3
        rw [if_neg e'] at h2 h4
        exact E.ds j k xs ys b h1 h2 h3 h4
theorem Gh.set {K : PySem.W.Frag} {H0 F H : Hp} {Γ : En} {σ : St} {a : Addr} {l : List PyData} {s : Sl} {v : V} {j : Nat} (G : Gh K H0 F H Γ σ i a l) (hj : j ≠ i) (hn : ∀ xs b, s = .ow xs → v = .ref b → b ≠ a) : Gh K H0 F H (setE j s Γ) (σ.set j (some v)) i a l := by
  refine ⟨by rw [List.getElem?_set_ne hj]; exact G.si, by unfold setE; rw [List.getElem?_set_ne hj]; exact G.gi, G.h0, G.f0, G.hv, fun k xs h1 h2 => ?_⟩
  unfold setE at h1
  rw [List.getElem?_set] at h1 h2
  split at h1
  · next e =>
    rw [if_pos e] at h2
    split at h1
    · cases h1
      split at h2
      · cases h2; exact hn xs a rfl rfl rfl
      · cases h2
    · cases h1
  · next e => rw [if_neg e] at h2; exact G.ap k xs h1 h2
def mSet (j : Nat) (f : En → List PyData → Option (Sl × List PyData)) : GM := fun Γ l => (f Γ l).map fun p => .nx (setE j p.1 Γ) p.2
theorem sm_set (j : Nat) {x : Str} {e : Expr} {p pos : Pos} {f} (h : EX S i e f) (hj : j ≠ i := by decide) (hN : S.N[j]? = some x := by rfl) (hx : locB S.sc x = true := by kernel_rfl) (hf : (S.fn x || (S.sc.names.lookup x == some NameKind.local)) = true := by kernel_rfl) (hs : ∀ X : Cx, swapsWith e (some (.Name x p)) pos.line X.env = pure false := by intro _; rfl) :
    SM S i (.Assign [.Name x p] e pos) (mSet j f) := by
  obtain ⟨t, a1, a2⟩ := h
  refine ⟨tAsg t (gName j), fun X ok => ps_set (by rw [ok.N]; exact ok.nd) (by rw [ok.N]; exact hN) (by rw [ok.sc]; exact loc_of hx) (a1 X ok) (hs X) (fn_or ok hf), fun F0 H0 F H Γ σ D a l o R G hg k => ?_⟩
  unfold mSet at hg
  cases q : f Γ l with
  | none => rw [q] at hg; cases hg
  | some p =>
    obtain ⟨s, l'⟩ := p
    rw [q] at hg; cases hg
    refine a2 Γ σ H0 F H _ a l s l' R.en G q fun v F' H' vs' u hv hd m => ?_
    have R' := R.monoX G u
    have G' := G.next u hv hd
    refine k _ F' H' ⟨R'.en.set_slX j m.1 (fun xs b e1 e2 => R.su.h.free (m.2 xs b e1 e2)) fun xs b e1 e2 k' ys h1 h2 => ?_, R'.su⟩ (G'.set hj fun xs b e1 e2 z => ?_)
    · obtain ⟨w, w1, c, ws, e3, _, e4, _⟩ := R.en.sl k' _ h1
      rw [h2] at w1; cases w1; cases e3
      rw [m.2 xs b e1 e2] at e4; cases e4
    · obtain ⟨o, h⟩ := G.here
      rw [z] at e2
      rw [m.2 xs a e1 e2] at h; cases h
theorem Gh.wrt {K : PySem.W.Frag} {F0 H0 F H : Hp} {Γ : En} {σ : St} {a : Addr} {l l' : List PyData} {us : List V} (R : StR K F0 H0 F H Γ σ) (G : Gh K H0 F H Γ σ i a l) (hd : DpAll K F us l') : SubX a F H F (upd H a (.lst us)) := by
  refine ⟨.refl _, fun b o n e => by rw [upd_ne n]; exact e, fun b o e => ?_, fun b o _ e => e⟩
  rw [upd_ne (fun z => by subst z; rw [G.f0] at e; cases e)]
  exact R.en.fh b o e
def mGset (fi : En → Option PyData) (f : En → List PyData → Option (PyData × List PyData)) : GM := fun Γ l => (f Γ l).bind fun p => match fi Γ with
  | some (.int k) => (ixN p.2.length k).map fun j => .nx Γ (p.2.set j p.1)
  | _ => none
theorem sm_gset {x : Str} {e ie : Expr} {p sp pos : Pos} {f fi} (hi : SL S ie fi) (h : EXV S i e f) (hN : S.N[i]? = some x := by rfl) (hv : visB S.sc x = true := by kernel_rfl) (hd : (x == ("__debug__" : Str)) = false := by decide) (hcd : (x == ("__classdict__" : Str)) = false := by decide)
    (ha : ∀ (X : Cx) v, assign (.Subscript (.Name x p) ie sp) X.env v = (do
      let ov ← holding [v] (eval (.Name x p) X.env)
      let iv ← holding [v, ov] (eval ie X.env)
      standAt sp
      holding [v, ov, iv] (setItem ov iv v)
      release [v, ov, iv] []) := by intro _ _; rfl)
    (hs : ∀ X : Cx, swapsWithSole [.Subscript (.Name x p) ie sp] e pos.line X.env = pure false := by intro _; rfl) (hw : ∀ X : Cx, swappedStores [.Subscript (.Name x p) ie sp] e X.env = pure none := by intro _; rfl) (h1 : ∀ X : Cx, (assignEach [.Subscript (.Name x p) ie sp] X.env).map (·.2) = [assign (.Subscript (.Name x p) ie sp) X.env] := by intro _; rfl) :
    SM S i (.Assign [.Subscript (.Name x p) ie sp] e pos) (mGset fi f) := by
  obtain ⟨t, a1, a2⟩ := h
  obtain ⟨ti, b1, b2⟩ := hi
  refine ⟨tAsg t (gSub (tVar i) ti rSetL), fun X ok => ps_asg (a1 X ok) (pg_sub (pe_var (by rw [ok.N]; exact hN) (by rw [ok.sc]; exact vis_of hv) hd hcd) (b1 X ok) set_list (ha X)) (hs X) (hw X) (h1 X), fun F0 H0 F H Γ σ D a l o R G hg k => ?_⟩
  unfold mGset at hg
  cases q : f Γ l with
  | none => rw [q] at hg; cases hg
  | some p =>
    obtain ⟨d, l'⟩ := p
    rw [q, Option.bind_some] at hg
    split at hg
    · next kk q2 =>
      dsimp only at hg
      cases q4 : ixN l'.length kk with
      | none => rw [q4] at hg; cases hg
      | some j =>
        rw [q4] at hg; cases hg
        refine a2 Γ σ H0 F H _ a l d l' R.en G q fun v F1 H1 vs1 u1 hv1 hd1 l1 => ?_
        have R1 := R.monoX G u1
        have G1 := G.next u1 hv1 hd1
        refine ⟨_, G.si, b2 Γ σ H0 F1 H1 _ _ R1.en q2 fun w F2 H2 u2 l2 => ?_⟩
        have R2 := R1.mono u2
        have G2 := G1.next u2.x (u2.h _ _ hv1) (dpAll_mono u2.f hd1)
        refine ⟨a, vs1, kk, j, rfl, l2.int, u2.h _ _ hv1, by rw [hd1.length]; exact q4, ?_⟩
        have dd := (dpAll_mono u2.f hd1).set (dp_mono u2.f l1) j
        have ux := G2.wrt R2 dd
        exact k _ F2 _ (R2.monoX G2 ux) (G2.next ux upd_same dd)
    · cases hg
end
end
end Bd
namespace Bd
open PySem L2
noncomputable section
section
variable {S : Sx} {i : Nat}
def ArG (K : PySem.W.Frag) (F : Hp) (a : Addr) : Option PyData → V → Prop
  | some d, v => Dp K F v d
  | none, v => v = .ref a
inductive AG (K : PySem.W.Frag) (F : Hp) (a : Addr) : List (Option PyData) → List V → Prop where
  | nil : AG K F a [] []
  | cons {o : Option PyData} {v : V} {os : List (Option PyData)} {vs : List V} (h : ArG K F a o v) (t : AG K F a os vs) : AG K F a (o :: os) (v :: vs)
theorem AG.mono {K : PySem.W.Frag} {F F' : Hp} {a : Addr} (s : Same F F') : ∀ {os : List (Option PyData)} {vs : List V}, AG K F a os vs → AG K F' a os vs
  | _, _, .nil => .nil
  | _, _, .cons (o := some d) h t => .cons (dp_mono s h) (AG.mono s t)
  | _, _, .cons (o := none) h t => .cons h (AG.mono s t)
theorem AG.length {K : PySem.W.Frag} {F : Hp} {a : Addr} : ∀ {os : List (Option PyData)} {vs : List V}, AG K F a os vs → os.length = vs.length
  | _, _, .nil => rfl
  | _, _, .cons _ t => by rw [List.length_cons, List.length_cons, AG.length t]
theorem AG.get {K : PySem.W.Frag} {F : Hp} {a : Addr} : ∀ {os : List (Option PyData)} {vs : List V} {k : Nat} {o : Option PyData}, AG K F a os vs → os[k]? = some o → ∃ v, vs[k]? = some v ∧ ArG K F a o v
  | _, _, _, _, .nil, e => by simp at e
  | _, _, 0, _, .cons h _, e => by simp at e; subst e; exact ⟨_, rfl, h⟩
  | _, _, k + 1, o, .cons _ t, e => by
    obtain ⟨v, h1, h2⟩ := AG.get (k := k) (o := o) t (by simpa using e)
    exact ⟨v, by simpa using h1, h2⟩
def AX (S : Sx) (i : Nat) (es : List Expr) (f : En → List PyData → Option (List (Option PyData) × List PyData)) : Prop :=
  ∃ t : TA, (∀ X, S.Ok X → PA X es t) ∧ ∀ Γ σ H0 F H Q a g os g', EnR S.K H0 F H Γ σ → Gh S.K H0 F H Γ σ i a g → f Γ g = some (os, g') →
    (∀ vs F' H' ws, SubX a F H F' H' → H' a = some (.lst ws) → DpAll S.K F' ws g' → AG S.K F' a os vs → Q vs H') → t σ H Q
def gaNil : En → List PyData → Option (List (Option PyData) × List PyData) := fun _ g => some ([], g)
theorem ax_nil : AX S i [] gaNil := ⟨tNil, fun X _ => pa_nil, fun Γ σ H0 F H Q a g os g' E G hf k => by
  cases hf
  obtain ⟨vs, h1, h2⟩ := G.hv
  exact k [] F H vs (Sub.refl E.fh).x h1 h2 .nil⟩
def gaV (f : En → List PyData → Option (PyData × List PyData)) (r : En → List PyData → Option (List (Option PyData) × List PyData)) : En → List PyData → Option (List (Option PyData) × List PyData) := fun Γ g =>
  (f Γ g).bind fun x => (r Γ x.2).map fun y => (some x.1 :: y.1, y.2)
theorem ax_val {e : Expr} {es : List Expr} {f r} (h : EXV S i e f) (hr : AX S i es r) (he : ∀ X : Cx, starEach (e :: es) X.env = (false, eval e X.env) :: starEach es X.env := by intro _; rfl) : AX S i (e :: es) (gaV f r) := by
  obtain ⟨t, a1, a2⟩ := h
  obtain ⟨u, b1, b2⟩ := hr
  refine ⟨tCons t u, fun X ok => pa_cons (a1 X ok) (b1 X ok) (he X), fun Γ σ H0 F H Q a g os g' E G hf k => ?_⟩
  unfold gaV at hf
  cases q : f Γ g with
  | none => rw [q] at hf; cases hf
  | some x =>
    obtain ⟨d, g1⟩ := x
    rw [q, Option.bind_some] at hf
    cases q2 : r Γ g1 with
    | none => rw [q2] at hf; cases hf
    | some y =>
      obtain ⟨os', g2⟩ := y
      rw [q2] at hf; cases hf
      refine a2 Γ σ H0 F H _ a g d g1 E G q fun v F1 H1 vs1 u1 hv1 hd1 l1 => ?_
      refine b2 Γ σ H0 F1 H1 _ a g1 os' _ (E.monoX G u1) (G.next u1 hv1 hd1) q2 fun vs F2 H2 ws u2 hv2 hd2 l2 => ?_
      exact k (v :: vs) F2 H2 ws (u1.trans u2 ⟨_, hv1⟩) hv2 hd2 (.cons (o := some d) (dp_mono u2.f l1) l2)
def gaG (r : En → List PyData → Option (List (Option PyData) × List PyData)) : En → List PyData → Option (List (Option PyData) × List PyData) := fun Γ g => (r Γ g).map fun y => (none :: y.1, y.2)
theorem ax_gh {x : Str} {p : Pos} {es : List Expr} {r} (hr : AX S i es r) (hN : S.N[i]? = some x := by rfl) (hv : visB S.sc x = true := by kernel_rfl) (hd : (x == ("__debug__" : Str)) = false := by decide) (hcd : (x == ("__classdict__" : Str)) = false := by decide)
    (he : ∀ X : Cx, starEach (.Name x p :: es) X.env = (false, eval (.Name x p) X.env) :: starEach es X.env := by intro _; rfl) : AX S i (.Name x p :: es) (gaG r) := by
  obtain ⟨u, b1, b2⟩ := hr
  refine ⟨tCons (tVar i) u, fun X ok => pa_cons (pe_var (by rw [ok.N]; exact hN) (by rw [ok.sc]; exact vis_of hv) hd hcd) (b1 X ok) (he X), fun Γ σ H0 F H Q a g os g' E G hf k => ?_⟩
  unfold gaG at hf
  cases q2 : r Γ g with
  | none => rw [q2] at hf; cases hf
  | some y =>
    obtain ⟨os', g2⟩ := y
    rw [q2] at hf; cases hf
    exact ⟨_, G.si, b2 Γ σ H0 F H _ a g os' _ E G q2 fun vs F2 H2 ws u2 hv2 hd2 l2 => k _ F2 H2 ws u2 hv2 hd2 (.cons (o := none) rfl l2)⟩
def spG (K : PySem.W.Frag) (n : Nat) (m : List (Option PyData) → List PyData → Option (Sl × List PyData)) : L2.Sp := fun vs H Q _ =>
  ∃ F a os g s g', Same F H ∧ os.length = n ∧ AG K F a os vs ∧ F a = none ∧ (∃ ws, H a = some (.lst ws) ∧ DpAll K F ws g) ∧ m os g = some (s, g') ∧
    ∀ v F' H' ws, SubX a F H F' H' → H' a = some (.lst ws) → DpAll K F' ws g' → SlN K H F' H' s v → Q v H'
structure FnG (S : Sx) (x : Str) (ps : List Str) (m : List (Option PyData) → List PyData → Option (Sl × List PyData)) : Prop where
  ex : ∃ (f : Addr) (fd : FuncData) (j : Nat), FnOk S.P S.w S.K S.mg S.base CX0 j f fd ps (spG S.K ps.length m) ∧ j ≤ S.k ∧ S.mg x = some (.ref f) ∧ PySem.W.keepIn S.K (.ref f) = true ∧ Binds S.K fd ps []
def xCallG (n : Nat) (m : List (Option PyData) → List PyData → Option (Sl × List PyData)) (r : En → List PyData → Option (List (Option PyData) × List PyData)) : En → List PyData → Option (Sl × List PyData) := fun Γ g =>
  (r Γ g).bind fun y => if y.1.length = n then m y.1 y.2 else none
theorem ex_call {x : Str} {ps : List Str} {m} {e : Expr} {es : List Expr} {p pos : Pos} {r} (G : FnG S x ps m) (ha : AX S i (e :: es) r) (hg : glB S.sc x = true := by kernel_rfl) (hdb : (x == ("__debug__" : Str)) = false := by decide)
    (he : ∀ X : Cx, starEach (e :: es) X.env = (false, eval e X.env) :: starEach es X.env := by intro _; rfl) (hpl : ∀ X : Cx, (backTo pos (starEach es X.env)).any (·.1) = false := by intro _; rfl) :
    EX S i (.Call (.Name x p) (e :: es) [] pos) (xCallG ps.length m r) := by
  obtain ⟨f, fd, j, F0, hj, hm, hk, hb⟩ := G.ex
  obtain ⟨t, a1, a2⟩ := ha
  refine ⟨tCall (spG S.K ps.length m) [] E0 t, fun X ok => ?_, fun Γ σ H0 F H Q a g s g' E Gh hf k => ?_⟩
  · have F1 : FnOk X.prog X.w X.K X.mg X.base CX0 j f fd ps (spG S.K ps.length m) := by rw [ok.P, ok.w, ok.K, ok.mg, ok.base]; exact F0
    exact pe_call F1 (ok.room.mono hj) (ok.gl hg) (by rw [ok.mg]; exact hm) (by rw [ok.K]; exact hk) (by rw [ok.K]; exact hb) .nil pass0 (a1 X ok) hdb (he X) (hpl X)
  · unfold xCallG at hf
    cases q1 : r Γ g with
    | none => rw [q1] at hf; cases hf
    | some y =>
      obtain ⟨os, g1⟩ := y
      rw [q1, Option.bind_some] at hf
      split at hf
      · next hl =>
        refine a2 Γ σ H0 F H _ a g os g1 E Gh q1 fun vs F1 H1 ws u1 hv1 hd1 l1 => ?_
        rw [List.append_nil]
        have G1 := Gh.next u1 hv1 hd1
        refine ⟨F1, a, os, g1, s, g', u1.fh, hl, l1, G1.f0, ⟨ws, hv1, hd1⟩, hf, fun v F' H' ws' u hv hd l => ?_⟩
        exact k v F' H' ws' (u1.trans u ⟨_, hv1⟩) hv hd (l.back u1 ⟨_, hv1⟩)
      · cases hf
end
def startG (n : Nat) (os : List (Option PyData)) : En := (os.map (Option.map Sl.fz)) ++ List.replicate (n - os.length) none
def mirrorG (n i : Nat) (g : GM) : List (Option PyData) → List PyData → Option (Sl × List PyData) := fun os l => match os[i]? with
  | some none => match g (startG n os) l with
    | some (.rt s l') => some (s, l')
    | some (.nx _ l') => some (.fz .none, l')
    | _ => none
  | _ => none
def delH (H : Hp) (a : Addr) : Hp := fun b => if b = a then none else H b
theorem del_same {H : Hp} {a : Addr} : delH H a a = none := by unfold delH; rw [if_pos rfl]
theorem del_ne {H : Hp} {a b : Addr} (h : b ≠ a) : delH H a b = H b := by unfold delH; rw [if_neg h]
theorem startG_get {n : Nat} {os : List (Option PyData)} {j : Nat} {s : Sl} (h : (startG n os)[j]? = some (some s)) : ∃ d, s = .fz d ∧ os[j]? = some (some d) := by
  unfold startG at h
  by_cases hi : j < os.length
  · rw [List.getElem?_append_left (by rw [List.length_map]; exact hi), List.getElem?_map] at h
    cases e : os[j]? with
    | none => rw [e] at h; cases h
    | some d =>
      rw [e] at h
      cases d with
      | none => cases h
      | some d => cases h; exact ⟨d, rfl, rfl⟩
  · rw [List.getElem?_append_right (by rw [List.length_map]; omega), List.getElem?_replicate] at h
    split at h <;> cases h
theorem startG_ok {K : PySem.W.Frag} {F H : Hp} {N : List Str} {vs : List V} {os : List (Option PyData)} {a : Addr} {i : Nat} {l : List PyData} (fh : Same F H) (hd : AG K F a os vs) (hi : os[i]? = some none) (f0 : F a = none) (hv : ∃ ws, H a = some (.lst ws) ∧ DpAll K F ws l) :
    StR K F (delH H a) F H (startG N.length os) (start N vs) ∧ Gh K (delH H a) F H (startG N.length os) (start N vs) i a l := by
  have hl := hd.length
  have il : i < os.length := (List.getElem?_eq_some_iff.mp hi).1
  refine ⟨⟨⟨fh, fun j s h => ?_, fun j xs b h => ?_, fun j k xs ys b h => ?_, ?_⟩, .refl _, fun b o e => ?_, fh, fun b o _ e => e⟩, ?_, ?_, del_same, f0, hv, fun j xs h => ?_⟩
  · obtain ⟨d, rfl, e⟩ := startG_get h
    obtain ⟨v, e1, e2⟩ := hd.get e
    refine ⟨v, ?_, e2⟩
    unfold L2.start
    rw [List.getElem?_append_left (by rw [List.length_map]; exact (List.getElem?_eq_some_iff.mp e1).1), List.getElem?_map, e1]; rfl
  · obtain ⟨d, e, _⟩ := startG_get h; cases e
  · obtain ⟨d, e, _⟩ := startG_get h; cases e
  · unfold startG L2.start
    simp only [List.length_append, List.length_map, List.length_replicate, hl]
  · by_cases c : b = a
    · rw [c, del_same] at e; cases e
    · rw [del_ne c] at e; exact e
  · obtain ⟨v, e1, e2⟩ := hd.get hi
    have e2 : v = .ref a := e2
    subst e2
    unfold L2.start
    rw [List.getElem?_append_left (by rw [List.length_map]; exact (List.getElem?_eq_some_iff.mp e1).1), List.getElem?_map, e1]; rfl
  · unfold startG
    rw [List.getElem?_append_left (by rw [List.length_map]; exact il), List.getElem?_map, hi]; rfl
  · obtain ⟨d, e, _⟩ := startG_get h; cases e
theorem fn_okG {P : Program} {w : World} {K : PySem.W.Frag} {mg : Str → Option Value} {base : Heap} {x qual : Str} {st : Stmt} {f : Addr} {fd : FuncData} {N ps : List Str} {k i : Nat} {g} (F : Fun K x qual st f fd) (sc : FnScope N ps (defScope st))
    (hb : SMs (sxOf P w K mg base N (defScope st) k) i (defBody st) g) : FnOk P w K mg base CX0 (k + 1) f fd ps (spG K ps.length (mirrorG N.length i g)) := by
  obtain ⟨t, b1, b2⟩ := hb
  refine F.ok sc (fun vs H Q E h => ?_) (fun cdv A outer s H vs Q E hr h => ?_)
  · obtain ⟨F, a, os, l, s, l', _, hl, hd, _⟩ := h
    rw [← hd.length]; exact hl
  · obtain ⟨F, a, os, l, s1, l', fh, hl, hd, f0, hv, hm, kQ⟩ := h
    refine ⟨t, b1 _ ⟨rfl, rfl, rfl, rfl, rfl, rfl, rfl, hr, rfl, sc.nd, rfl, PassesOwn.never⟩, ?_⟩
    unfold mirrorG at hm
    split at hm
    · next hi =>
      obtain ⟨R, G⟩ := startG_ok (N := N) fh hd hi f0 hv
      cases q : g (startG N.length os) l with
      | none => rw [q] at hm; cases hm
      | some o =>
        rw [q] at hm
        refine b2 F (delH H a) F H _ _ _ a l o R G q ?_
        have sx : ∀ {F' H' : Hp}, Sub F (delH H a) F' H' → F' a = none → SubX a F H F' H' := fun u fa => ⟨u.f, fun b o n e => u.h b o (by rw [del_ne n]; exact e), u.fh, fun b o e1 e2 => by
          by_cases c : b = a
          · rw [c]; exact fa
          · exact u.o b o (by rw [del_ne c]; exact e1) e2⟩
        cases o with
        | rt s l1 =>
          cases hm
          intro v F' H' ws u fa hv' hd' m nb
          refine kQ v F' H' ws (sx u fa) hv' hd' ⟨m.1, fun xs b e1 e2 => ?_⟩
          have := m.2 xs b e1 e2
          rw [del_ne (nb xs b e1 e2)] at this; exact this
        | nx Γ l1 =>
          cases hm
          intro σ F' H' R' G'
          obtain ⟨ws, hv', hd'⟩ := G'.hv
          exact kQ .non F' H' ws (sx R'.su G'.f0) hv' hd' ⟨.non, fun _ _ z => by cases z⟩
        | bk Γ l1 => cases hm
        | ct Γ l1 => cases hm
    · cases hm
end
end Bd
namespace Bd
open PySem L2
noncomputable section
section
variable {S : Sx} {i : Nat}
def IX (S : Sx) (i : Nat) (tg iter : Expr) (f : En → List PyData → Option (List PyData × List PyData)) : Prop :=
  ∃ wi : TI, (∀ X, S.Ok X → PI X tg iter wi) ∧ ∀ Γ σ H0 F H R a g ds g', EnR S.K H0 F H Γ σ → Gh S.K H0 F H Γ σ i a g → f Γ g = some (ds, g') →
    (∀ J F' H' vs', SubX a F H F' H' → H' a = some (.lst vs') → DpAll S.K F' vs' g' → ItR S.K F' F' J ds → R J H') → wi σ H R
def xPI (f : En → Option (List PyData)) : En → List PyData → Option (List PyData × List PyData) := fun Γ g => (f Γ).map fun s => (s, g)
theorem SIV.x {tg iter : Expr} {f} (h : SIV S tg iter f) : IX S i tg iter (xPI f) := by
  obtain ⟨t, a1, a2⟩ := h
  refine ⟨t, a1, fun Γ σ H0 F H R a g ds g' E G hf k => ?_⟩
  unfold xPI at hf
  cases q : f Γ with
  | none => rw [q] at hf; cases hf
  | some s' =>
    rw [q] at hf; cases hf
    obtain ⟨vs, h1, h2⟩ := G.hv
    exact a2 Γ σ H0 F H _ _ E q fun J F' H' u it => k J F' H' vs u.x (u.h _ _ h1) (dpAll_mono u.f h2) it
def forM (g : PyData → En → Option En) (b : GM) : List PyData → GM
  | [], Γ, l => some (.nx Γ l)
  | d :: ds, Γ, l => (g d Γ).bind fun Γ1 => match b Γ1 l with
    | some (.nx Γ2 l2) => forM g b ds Γ2 l2
    | some (.ct Γ2 l2) => forM g b ds Γ2 l2
    | some (.bk Γ2 l2) => some (.nx Γ2 l2)
    | some (.rt s l2) => some (.rt s l2)
    | none => none
def mFor (fi : En → List PyData → Option (List PyData × List PyData)) (g : PyData → En → Option En) (b : GM) : GM := fun Γ l => (fi Γ l).bind fun p => forM g b p.1 Γ p.2
theorem EndM.rebase {K : PySem.W.Frag} {F0 H0 F1 H1 : Hp} {a : Addr} {D : Ends} {o : OutM} (u : Sub F0 H0 F1 H1) (k : EndM K F0 H0 i a D o) : EndM K F1 H0 i a D o := by
  cases o with
  | nx Γ l => exact fun σ F H R z => k σ F H (R.rebase u) z
  | bk Γ l => exact fun σ F H R z => k σ F H (R.rebase u) z
  | ct Γ l => exact fun σ F H R z => k σ F H (R.rebase u) z
  | rt s l => exact fun v F H ws R f hv hd l nb => k v F H ws (u.rebase R) f hv hd l nb
theorem sm_for {tg iter : Expr} {body : List Stmt} {pos : Pos} {js : List Nat} {fi g b} (hi : IX S i tg iter fi) (hg : SG S tg js g) (hk : GKp js g) (hb : SMs S i body b) (hij : i ∉ js := by decide) (hs : ∀ (X : Cx) x, foldedSetIterable iter X.env x = pure x := by intro _ _; rfl) : SM S i (.For tg iter body [] pos) (mFor fi g b) := by
  obtain ⟨wi, i1, i2⟩ := hi
  obtain ⟨t, g1, g2⟩ := hg
  obtain ⟨tb, b1, b2⟩ := hb
  refine ⟨tFor wi t tb, fun X ok => ps_for ok.pass ok.calm (i1 X ok) (g1 X ok) (b1 X ok) (hs X), fun F0 H0 F H Γ σ D a l o R G hg k => ?_⟩
  unfold mFor at hg
  cases q : fi Γ l with
  | none => rw [q] at hg; cases hg
  | some pr =>
    obtain ⟨ds, l1⟩ := pr
    rw [q, Option.bind_some] at hg
    refine i2 Γ σ H0 F H _ a l ds l1 R.en G q fun J F1 H1 vs1 u1 hv1 hd1 it => ?_
    have R1 := R.monoX G u1
    have G1 := G.next u1 hv1 hd1
    have k1 : EndM S.K F1 H0 i a D o := k.rebase R1.su
    refine ⟨fun n m σ2 H2 => m = ds.length - n ∧ n ≤ ds.length ∧ ∃ F2 Γ2 l2, StR S.K F1 H0 F2 H2 Γ2 σ2 ∧ Gh S.K H0 F2 H2 Γ2 σ2 i a l2 ∧ forM g b (ds.drop n) Γ2 l2 = some o, ⟨ds.length, by simp, Nat.zero_le _, F1, Γ, l1, R1.base, G1, by simpa using hg⟩, ?_⟩
    rintro n m σ2 H2 ⟨rfl, hn, F2, Γ2, l2, R2, G2, hr⟩
    obtain ⟨go, stop⟩ := it n F2 H2 R2.su.f R2.en.fh (R2.su.f.trans R2.en.fh)
    by_cases hlt : n < ds.length
    · obtain ⟨go1, go2⟩ := go hlt
      refine .inr ⟨go1, fun σ' H' => ∃ F3 Γ3 l3, StR S.K F1 H0 F3 H' Γ3 σ' ∧ Gh S.K H0 F3 H' Γ3 σ' i a l3 ∧ forM g b (ds.drop (n + 1)) Γ3 l3 = some o, fun σ' H' z => ⟨ds.length - (n + 1), by omega, rfl, hlt, z⟩, fun x H3 yl => ?_⟩
      obtain ⟨F3, d, hd, u3, hx⟩ := go2 x H3 yl
      have hdr : ds.drop n = d :: ds.drop (n + 1) := by
        obtain ⟨h1, h2⟩ := List.getElem?_eq_some_iff.mp hd
        rw [List.drop_eq_getElem_cons h1, h2]
      rw [hdr] at hr
      unfold forM at hr
      cases r1 : g d Γ2 with
      | none => rw [r1] at hr; cases hr
      | some Γ3 =>
        rw [r1, Option.bind_some] at hr
        have R3 := R2.mono u3
        obtain ⟨ws, hv2, hd2⟩ := G2.hv
        have hv3 := u3.h _ _ hv2
        have hd3 := dpAll_mono u3.f hd2
        have G3 := G2.next u3.x hv3 hd3
        have L3 := lift_st R3 G3 hv3
        refine g2 _ F3 H3 Γ2 σ2 x d Γ3 _ L3.en hx r1 fun σ3 ag E3 => ?_
        obtain ⟨R4, G4⟩ := lift_back R3 G3 hv3 hd3 ⟨E3, L3.su⟩ (ag.2 i hij) (hk d Γ2 Γ3 r1 i hij)
        cases r2 : b Γ3 l2 with
        | none => rw [r2] at hr; cases hr
        | some o1 =>
          rw [r2] at hr
          refine b2 F1 H0 F3 H3 Γ3 σ3 _ a l2 o1 R4 G4 r2 ?_
          cases o1 with
          | nx Γ4 l4 => exact fun σ' F' H' R' z => ⟨F', Γ4, l4, R', z, hr⟩
          | ct Γ4 l4 => exact fun σ' F' H' R' z => ⟨F', Γ4, l4, R', z, hr⟩
          | bk Γ4 l4 => cases hr; exact fun σ' F' H' R' z => k1 σ' F' H' R' z
          | rt s l4 => cases hr; exact fun v F' H' ws u fa hv hd l nb => k1 v F' H' ws u fa hv hd l nb
    · have e : n = ds.length := by omega
      subst e
      rw [List.drop_length] at hr
      cases hr
      exact .inl ⟨stop (Nat.le_refl _), k1 σ2 F2 H2 R2 G2⟩
theorem Gh.wr {K : PySem.W.Frag} {H0 F H : Hp} {Γ : En} {σ : St} {a b : Addr} {l : List PyData} {j : Nat} {xs ys : List PyData} {o : HO} (G : Gh K H0 F H Γ σ i a l) (hj : Γ[j]? = some (some (.ow xs))) (hb : σ[j]? = some (some (.ref b))) : Gh K H0 F (upd H b o) (setE j (.ow ys) Γ) σ i a l := by
  have nb : a ≠ b := fun z => by subst z; exact G.ap j xs hj hb
  have ji : j ≠ i := fun z => by subst z; rw [G.gi] at hj; cases hj
  refine ⟨G.si, by unfold setE; rw [List.getElem?_set_ne ji]; exact G.gi, G.h0, G.f0, ?_, fun k zs h1 h2 => ?_⟩
  · obtain ⟨vs, h1, h2⟩ := G.hv
    exact ⟨vs, by rw [upd_ne nb]; exact h1, h2⟩
  · unfold setE at h1
    rw [List.getElem?_set] at h1
    split at h1
    · next e => subst e; exact G.ap j xs hj h2
    · exact G.ap k zs h1 h2
def mApp (j : Nat) (f : En → List PyData → Option (PyData × List PyData)) : GM := fun Γ l => match Γ[j]?, f Γ l with
  | some (some (.ow xs)), some (d, l') => if xs.length < cap then some (.nx (setE j (.ow (xs ++ [d])) Γ) l') else none
  | _, _ => none
def gGh (i : Nat) (f : En → Option Sl) (g : GM) : En → Option Out := fun Γ => match f Γ with
  | some (.ow xs) => if i < Γ.length then (match g (Γ.set i none) xs with
    | some (.rt s _) => some (.rt s)
    | _ => none) else none
  | _ => none
theorem ss_ghost (i : Nat) {x : Str} {e : Expr} {p pos : Pos} {rest : List Stmt} {f g} (h : SE S e f) (hr : SMs S i rest g) (hN : S.N[i]? = some x := by rfl) (hx : locB S.sc x = true := by kernel_rfl) (hf : (S.fn x || (S.sc.names.lookup x == some NameKind.local)) = true := by kernel_rfl) (hs : ∀ X : Cx, swapsWith e (some (.Name x p)) pos.line X.env = pure false := by intro _; rfl) :
    SSs S (.Assign [.Name x p] e pos :: rest) [] (gGh i f g) := by
  obtain ⟨t, a1, a2⟩ := h
  obtain ⟨u, b1, b2⟩ := hr
  refine ⟨tSeq (tAsg t (gName i)) u, fun X ok => pss_cons (ps_set (by rw [ok.N]; exact ok.nd) (by rw [ok.N]; exact hN) (by rw [ok.sc]; exact loc_of hx) (a1 X ok) (hs X) (fn_or ok hf)) (b1 X ok), fun F0 H0 F H Γ σ D o R hg k => ?_⟩
  unfold gGh at hg
  split at hg
  · next xs q =>
    split at hg
    · next il =>
      split at hg
      · next s l' q2 =>
        cases hg
        refine a2 Γ σ H0 F H _ _ R.en q fun v F' H' w lv => ?_
        obtain ⟨⟨b, vs, rfl, r1, r2, r3⟩, r4⟩ := lv
        have hb := r4 xs b rfl rfl
        have R' := R.mono w
        have ln := R.en.ln
        have gt : ∀ {j : Nat} {s : Sl}, (Γ.set i none)[j]? = some (some s) → Γ[j]? = some (some s) ∧ i ≠ j := fun {j s} hj => by
          rw [List.getElem?_set] at hj
          split at hj
          · first | cases hj | (split at hj <;> cases hj)
          · next ne => exact ⟨hj, ne⟩
        have st : ∀ {j : Nat}, i ≠ j → (σ.set i (some (V.ref b)))[j]? = σ[j]? := fun ne => List.getElem?_set_ne ne
        have E2 : EnR S.K H0 F' H' (Γ.set i none) (σ.set i (some (.ref b))) := by
          refine ⟨R'.en.fh, fun j s hj => ?_, fun j zs c h1 h2 => ?_, fun j m zs ws c h1 h2 h3 h4 => ?_, by rw [List.length_set, List.length_set]; exact ln⟩
          · obtain ⟨e1, ne⟩ := gt hj
            rw [st ne]; exact R'.en.sl j s e1
          · obtain ⟨e1, ne⟩ := gt h1
            rw [st ne] at h2; exact R'.en.nw j zs c e1 h2
          · obtain ⟨e1, ne1⟩ := gt h1
            obtain ⟨e2, ne2⟩ := gt h2
            rw [st ne1] at h3
            rw [st ne2] at h4
            exact R'.en.ds j m zs ws c e1 e2 h3 h4
        have G2 : Gh S.K H0 F' H' (Γ.set i none) (σ.set i (some (.ref b))) i b xs := by
          refine ⟨by rw [List.getElem?_set_self (by omega)], by rw [List.getElem?_set_self il], R.su.h.free hb, r1, ⟨vs, r2, r3⟩, fun j zs h1 h2 => ?_⟩
          obtain ⟨e1, ne⟩ := gt h1
          rw [st ne] at h2
          obtain ⟨v', w1, c, us, e3, _, e4, _⟩ := R.en.sl j _ e1
          rw [h2] at w1; cases w1; cases e3
          rw [hb] at e4; cases e4
        exact b2 F0 H0 F' H' _ _ D b xs _ ⟨E2, R'.su⟩ G2 q2 fun v F2 H2 ws u2 _ _ _ m _ => k v F2 H2 u2 m
      · cases hg
    · cases hg
  · cases hg
def x2N (j : Nat) (p : PyData → PyData → Option Sl) (h : En → List PyData → Option (PyData × List PyData)) : En → List PyData → Option (Sl × List PyData) := fun Γ g =>
  (gSl j Γ).bind fun d => (h Γ g).bind fun y => (p d y.1).map fun s => (s, y.2)
end
end
end Bd
namespace Bd
open PySem L2
noncomputable section
section
variable {X : Cx}
def rGetL (K : PySem.W.Frag) : V → V → Hp → VK → Prop := fun x y H Q => ∃ p xs k v, x = .ref p ∧ y = .int k ∧ SqL K H p xs ∧ 0 ≤ k ∧ xs[k.toNat]? = some v ∧ Q v H
theorem get_listL : PGet X (rGetL X.K) := by
  intro pins s σ H o i ov iv Q I ro ri h
  obtain ⟨p, xs, k, v, rfl, rfl, hq, h0, he, q⟩ := h
  cases ro
  obtain ⟨t, rfl⟩ := ri
  obtain ⟨its, r, pl, hz⟩ := I.list hq
  obtain ⟨w, ew, rw'⟩ := r.get he
  have hl := r.length
  have hlt := (List.getElem?_eq_some_iff.mp he).1
  have hn := line63
  exact wpAny_getItem_list pl.isList h0 (by omega) (by simpa using ew) ⟨v, H, I, rw', q⟩
end
section
variable {S : Sx} {i : Nat}
def mGaug (k : Nat) (f : En → List PyData → Option (PyData × List PyData)) : GM := fun Γ l => match l[k]? with
  | some (.int x) => (match f Γ l with
    | some (.int y, l') => (ixN l'.length (k : Int)).map fun j => .nx Γ (l'.set j (.int (x + y)))
    | _ => none)
  | _ => none
theorem sm_gaug (k : Nat) {x : Str} {e ie : Expr} {p tp pos : Pos} {f} (hi : SL S ie (kC (.int (k : Int)))) (h : EXV S i e f) (hN : S.N[i]? = some x := by rfl) (hv : visB S.sc x = true := by kernel_rfl) (hd : (x == ("__debug__" : Str)) = false := by decide) (hcd : (x == ("__classdict__" : Str)) = false := by decide)
    (ha : ∀ ov iv new, augStore ie ov iv new = (do holding [new, ov, iv] (setItem ov iv new); release [new, ov, iv] []; pure .next) := by intros; rfl) : SM S i (.AugAssign (.Subscript (.Name x p) ie tp) .Add e pos) (mGaug k f) := by
  obtain ⟨t, a1, a2⟩ := h
  obtain ⟨ti, b1, b2⟩ := hi
  refine ⟨tAugS (tVar i) ti t (rGetL S.K) (ipI fun i j => i + j) rSetL, fun X ok => ok.K ▸ ps_augS (pe_var (by rw [ok.N]; exact hN) (by rw [ok.sc]; exact vis_of hv) hd hcd) (b1 X ok) get_listL (a1 X ok) ip_add set_list ha, fun F0 H0 F H Γ σ D a l o R G hg kk => ?_⟩
  unfold mGaug at hg
  split at hg
  · next n q0 =>
    split at hg
    · next y l' q =>
      cases q4 : ixN l'.length (k : Int) with
      | none => rw [q4] at hg; cases hg
      | some j =>
        rw [q4] at hg; cases hg
        obtain ⟨vs, hv0, hd0⟩ := G.hv
        refine ⟨_, G.si, b2 Γ σ H0 F H _ _ R.en rfl fun w F1 H1 u1 l1 => ?_⟩
        have R1 := R.mono u1
        have hv1 := u1.h _ _ hv0
        have hd1 := dpAll_mono u1.f hd0
        have G1 := G.next u1.x hv1 hd1
        obtain ⟨z, z1, z2⟩ := hd1.get' q0
        cases z2
        refine ⟨a, vs, (k : Int), .int n, rfl, l1.int, SqL.of hv1, by omega, by rw [Int.toNat_natCast]; exact z1, ?_⟩
        refine a2 Γ σ H0 F1 H1 _ a l _ l' R1.en G1 q fun v F2 H2 vs2 u2 hv2 hd2 l2 => ?_
        cases l2
        have R2 := R1.monoX G1 u2
        have G2 := G1.next u2 hv2 hd2
        refine ⟨n, y, rfl, rfl, a, vs2, (k : Int), j, rfl, l1.int, hv2, by rw [hd2.length]; exact q4, ?_⟩
        have dd := hd2.set (.int (n + y)) j
        have ux := G2.wrt R2 dd
        exact kk _ F2 _ (R2.monoX G2 ux) (G2.next ux upd_same dd)
    · cases hg
  · cases hg
def mIns (j : Nat) (fi f : En → List PyData → Option (PyData × List PyData)) : GM := fun Γ l => match Γ[j]?, fi Γ l with
  | some (some (.ow xs)), some (.int k, l1) => (match f Γ l1 with
    | some (d, l2) => if 0 ≤ k ∧ k.toNat ≤ xs.length ∧ xs.length < cap then some (.nx (setE j (.ow (insD xs k.toNat d)) Γ) l2) else none
    | none => none)
  | _, _ => none
def mSetIx (j : Nat) (fi : En → Option PyData) (f : En → List PyData → Option (PyData × List PyData)) : GM := fun Γ l => match Γ[j]?, f Γ l, fi Γ with
  | some (some (.ow xs)), some (d, l'), some (.int k) => (ixN xs.length k).map fun n => .nx (setE j (.ow (xs.set n d)) Γ) l'
  | _, _, _ => none
end
end
end Bd
namespace Bd
open PySem L2
noncomputable section
section
variable {S : Sx}
def oAug (i : Nat) (h : Int → Int → Int) (f : En → Option PyData) : En → Option Out := fun Γ => match gSl i Γ, f Γ with
  | some (.int x), some (.int y) => some (.nx (setE i (.fz (.int (h x y))) Γ))
  | _, _ => none
def oAugIx (i : Nat) (h : Int → Int → Int) (fi f : En → Option PyData) : En → Option Out := fun Γ => match Γ[i]?, fi Γ, f Γ with
  | some (some (.ow xs)), some (.int k), some (.int y) => if 0 ≤ k then (match xs[k.toNat]? with
    | some (.int x) => some (.nx (setE i (.ow (xs.set k.toNat (.int (h x y)))) Γ))
    | _ => none) else none
  | _, _, _ => none
def oRevS (i : Nat) : En → Option Out := fun Γ => match Γ[i]? with
  | some (some (.ow xs)) => some (.nx (setE i (.ow xs.reverse) Γ))
  | _ => none
def oUnp (f : En → Option PyData) (g : PyData → En → Option En) : En → Option Out := fun Γ => (f Γ).bind fun d => (g d Γ).map Out.nx
theorem ss_unp {tg e : Expr} {pos : Pos} {js : List Nat} {f g} (h : SV S e f) (hg : SG S tg js g) (hk : GKp js g) (hs : ∀ X : Cx, swapsWithSole [tg] e pos.line X.env = pure false := by intro _; rfl) (hw : ∀ X : Cx, swappedStores [tg] e X.env = pure none := by intro _; rfl) (h1 : ∀ X : Cx, (assignEach [tg] X.env).map (·.2) = [assign tg X.env] := by intro _; rfl) :
    SS S (.Assign [tg] e pos) js (oUnp f g) := by
  obtain ⟨t, a1, a2⟩ := h
  obtain ⟨u, g1, g2⟩ := hg
  refine ⟨tAsg t u, fun X ok => ps_asg (a1 X ok) (g1 X ok) (hs X) (hw X) (h1 X), fun F0 H0 F H Γ σ D o R hg k => ?_⟩
  unfold oUnp at hg
  cases q : f Γ with
  | none => rw [q] at hg; cases hg
  | some d =>
    rw [q, Option.bind_some] at hg
    cases q2 : g d Γ with
    | none => rw [q2] at hg; cases hg
    | some Γ' =>
      rw [q2] at hg; cases hg
      refine a2 Γ σ H0 F H _ d R.en q fun v F1 H1 u1 l1 => ?_
      have R1 := R.mono u1
      exact g2 H0 F1 H1 Γ σ v d Γ' _ R1.en l1 q2 fun σ' ag E' => k σ' F1 H1 ⟨E', R1.su⟩ (Agr.kp R.en u1.h ag (hk d Γ Γ' q2))
def oPar (i j : Nat) (a : En → Option (List PyData)) : En → Option Out := fun Γ => match a Γ with
  | some [d, e] => some (.nx (setE j (.fz e) (setE i (.fz d) Γ)))
  | _ => none
def zipD (xs ys : List PyData) : List PyData := xs.zipWith (fun a b => PyData.tuple [a, b]) ys
def iZp (f g : En → Option PyData) : En → Option (List PyData) := fun Γ => match f Γ, g Γ with
  | some (.list xs), some (.list ys) => some (zipD xs ys)
  | _, _ => none
end
end
end Bd
namespace Bd
open PySem L2
noncomputable section
section
variable {S : Sx} {i : Nat}
def allS : List (Option PyData) → Option (List PyData)
  | [] => some []
  | some d :: os => (allS os).map (d :: ·)
  | none :: _ => none
def xLst (f : En → List PyData → Option (List (Option PyData) × List PyData)) : En → List PyData → Option (Sl × List PyData) := fun Γ g => (f Γ g).bind fun y => (allS y.1).bind fun ds => if ds.length ≤ cap then some (.ow ds, y.2) else none
end
end
end Bd
namespace Bd
open PySem L2
noncomputable section
section
variable {S : Sx}
theorem op_fdivW {X : Cx} : OpR X (binaryOp .FloorDiv) (rI (fun _ j => 0 < j ∧ j < 2 ^ 250) fun i j => .int (i / j)) := opI fun i j _ _ _ _ _ hc q => by
  have h1 := hc.1
  refine PyProof.Rows.floordiv_int (by omega) (by rw [Int.fdiv_eq_ediv_of_nonneg i (by omega)]; exact q) (.inl (PyProof.noPylong_of_log2 ?_))
  have h2 : j.natAbs < 2 ^ 250 := by
    have := hc.2
    have e : (j.natAbs : Int) = j := by omega
    exact Int.ofNat_lt.mp (by rw [e]; exact_mod_cast this)
  have := (Nat.log2_lt (by omega)).mpr h2
  omega
def divW (_ j : Int) : Bool := decide (0 < j) && decide (j < (big (2 ^ 250) : Int))
abbrev pDivW : PyData → PyData → Option Sl := pI (fun i j => .int (i / j)) divW
theorem os_divW : OpS S (binaryOp .FloorDiv) pDivW := os_rI (fun X _ => op_fdivW) (fun i j h => by
  unfold divW at h
  rw [big_eq] at h
  simp only [Bool.and_eq_true, decide_eq_true_eq] at h
  exact ⟨h.1, by exact_mod_cast h.2⟩) fun _ _ _ => .int _
def pInt1 : List PyData → Option Sl
  | [.int i] => some (.fz (.int i))
  | [.bool b] => some (.fz (.int (if b then 1 else 0)))
  | _ => none
end
end
end Bd
namespace Com
open PySem L2 Bd
noncomputable section
section
variable {f h : En → List PyData → Option (PyData × List PyData)} {fs : En → List PyData → Option (Sl × List PyData)} {c : En → List PyData → Option (Bool × List PyData)} {g k : GM} {Γ : En} {l : List PyData} {u : En → Option PyData}
@[simp] theorem e_xPV : xPV u Γ l = (u Γ).map fun s => (s, l) := id rfl
@[simp] theorem e_xP {v : En → Option Sl} : xP v Γ l = (v Γ).map fun s => (s, l) := id rfl
@[simp] theorem e_xPB {v : En → Option Bool} : xPB v Γ l = (v Γ).map fun s => (s, l) := id rfl
@[simp] theorem e_xPI {v : En → Option (List PyData)} : xPI v Γ l = (v Γ).map fun s => (s, l) := id rfl
@[simp] theorem e_xV : xV fs Γ l = (fs Γ l).map fun p => (p.1.d, p.2) := id rfl
@[simp] theorem e_xFz : xFz f Γ l = (f Γ l).map fun p => (.fz p.1, p.2) := id rfl
@[simp] theorem e_x2 {p : PyData → PyData → Option Sl} : x2 p f h Γ l = (f Γ l).bind fun x => (h Γ x.2).bind fun y => (p x.1 y.1).map fun s => (s, y.2) := id rfl
@[simp] theorem e_x2N {j : Nat} {p : PyData → PyData → Option Sl} : x2N j p h Γ l = (gSl j Γ).bind fun d => (h Γ l).bind fun y => (p d y.1).map fun s => (s, y.2) := id rfl
@[simp] theorem e_xB : xB fs Γ l = (match fs Γ l with | some (.fz (.bool b), g') => some (b, g') | _ => none) := id rfl
@[simp] theorem e_xGix : xGix u Γ l = (match u Γ with | some (.int j) => (atI l j).map fun d => (d, l) | _ => none) := id rfl
@[simp] theorem e_mNil : mNil Γ l = some (.nx Γ l) := id rfl
@[simp] theorem e_mSeq : mSeq g k Γ l = (match g Γ l with | some (.nx Γ' l') => k Γ' l' | r => r) := id rfl
@[simp] theorem e_mIf : mIf c g k Γ l = (match c Γ l with | some (true, l') => g Γ l' | some (false, l') => k Γ l' | none => none) := id rfl
@[simp] theorem e_mRet : mRet fs Γ l = (fs Γ l).map fun p => .rt p.1 p.2 := id rfl
@[simp] theorem e_mSet {j : Nat} : mSet j fs Γ l = (fs Γ l).map fun p => .nx (setE j p.1 Γ) p.2 := id rfl
@[simp] theorem e_mGset : mGset u f Γ l = (f Γ l).bind fun p => (match u Γ with | some (.int k) => (ixN p.2.length k).map fun j => .nx Γ (p.2.set j p.1) | _ => none) := id rfl
@[simp] theorem e_mGaug {j : Nat} : mGaug j f Γ l = (match l[j]? with | some (.int x) => (match f Γ l with | some (.int y, l') => (ixN l'.length (j : Int)).map fun n => .nx Γ (l'.set n (.int (x + y))) | _ => none) | _ => none) := id rfl
@[simp] theorem e_mLft {o : En → Option Out} : mLft o Γ l = (match o Γ with | some (.nx Γ') => some (.nx Γ' l) | some (.rt s) => some (.rt s l) | some (.bk Γ') => some (.bk Γ' l) | some (.ct Γ') => some (.ct Γ' l) | none => none) := id rfl
@[simp] theorem e_mFor {fi : En → List PyData → Option (List PyData × List PyData)} {t : PyData → En → Option En} : mFor fi t g Γ l = (fi Γ l).bind fun p => forM t g p.1 Γ p.2 := id rfl
@[simp] theorem e_mApp {j : Nat} : mApp j f Γ l = (match Γ[j]?, f Γ l with | some (some (.ow xs)), some (d, l') => if xs.length < cap then some (.nx (setE j (.ow (xs ++ [d])) Γ) l') else none | _, _ => none) := id rfl
@[simp] theorem e_gaNil : gaNil Γ l = some ([], l) := id rfl
@[simp] theorem e_gaV {r : En → List PyData → Option (List (Option PyData) × List PyData)} : gaV f r Γ l = (f Γ l).bind fun x => (r Γ x.2).map fun y => (some x.1 :: y.1, y.2) := id rfl
@[simp] theorem e_gaG {r : En → List PyData → Option (List (Option PyData) × List PyData)} : gaG r Γ l = (r Γ l).map fun y => (none :: y.1, y.2) := id rfl
@[simp] theorem e_xCallG {n : Nat} {m : List (Option PyData) → List PyData → Option (Sl × List PyData)} {r : En → List PyData → Option (List (Option PyData) × List PyData)} : xCallG n m r Γ l = (r Γ l).bind fun y => if y.1.length = n then m y.1 y.2 else none := id rfl
end
def g_law_stock : En → Option Out :=
  (oSeq (oSet 2 (fzOf (dOf (callD m_law_cell (aCons (gFz 0) (aCons (gFz 1) aNil))))))
  (oSeq (oIf (bOf (b2 pGe (dOf (callD pAbs (aCons (gSl 2) aNil))) (dOf (b2 pPow (kC (.int 10)) (kC (.int 18))))))
  (oSeq (oRet (dLst (aCons (dOf (callD pAbs (aCons (gSl 2) aNil))) (aCons (kC (.int 0)) aNil))))
  oNil)
  oNil)
  (oSeq (oRet (dLst (aCons (dOf (b2 pAdd (dOf (b2 pMul (dOf (b2 pMod (gSl 2) (dOf (b2 pPow (kC (.int 10)) (kC (.int 18)))))) (kC (.int 61)))) (dOf (b2 pMod (gSl 1) (kC (.int 61)))))) (aCons (kC (.int 1)) aNil))))
  oNil)))
def m_law_stock : List PyData → Option Sl := mirror 3 g_law_stock
def gG_law_take : GM :=
  (mSeq (mIf (xB (x2 pEq (xGix (kC (.int 1))) (xPV (kC (.int 0)))))
  (mSeq (mSet 2 (xFz (xV (x2 pMod (xGix (kC (.int 0))) (xPV (gFz 1))))))
  (mSeq (mGset (kC (.int 0)) (xV (x2 pDivW (xGix (kC (.int 0))) (xPV (gFz 1)))))
  (mSeq (mLft (oRetV 2))
  mNil)))
  mNil)
  (mSeq (mSet 3 (xFz (xV (x2 pAdd (xV (x2 pMul (xV (x2 pAdd (xGix (kC (.int 0))) (xPV (kC (.int 1))))) (xPV (kC (.int 2654435761))))) (xV (x2 pMul (xGix (kC (.int 1))) (xPV (kC (.int 2654503651)))))))))
  (mSeq (mSet 3 (xFz (xV (x2 pMod (xV (x2 pMul (xPV (dOf (b2 pMod (gSl 3) (kC (.int 4294967291))))) (xV (x2 pAdd (xV (x2 pAdd (xPV (dOf (b2 pMod (dOf (b2 pDivW (gSl 3) (kC (.int 4294967291)))) (kC (.int 65521))))) (xV (x2 pMul (xPV (kC (.int 2))) (xGix (kC (.int 1))))))) (xPV (kC (.int 3))))))) (xPV (kC (.int 4294967279)))))))
  (mSeq (mGaug 1 (xPV (kC (.int 1))))
  (mSeq (mRet (x2 pMod (xV (x2 pDivW (xV (x2 pMod (xV (x2 pMul (xPV (gFz 3)) (xV (x2 pAdd (xPV (dOf (b2 pDivW (gSl 3) (kC (.int 1024))))) (xGix (kC (.int 1))))))) (xPV (kC (.int 4294967231))))) (xPV (kC (.int 8))))) (xPV (gFz 1))))
  mNil)))))
def mG_law_take : List (Option PyData) → List PyData → Option (Sl × List PyData) := mirrorG 4 0 gG_law_take
theorem atI_0 (x : PyData) (xs : List PyData) : atI (x :: xs) 0 = some x := atI_of (by decide) rfl
theorem atI_1 (x y : PyData) (xs : List PyData) : atI (x :: y :: xs) 1 = some y := atI_of (by decide) rfl
theorem big250 {n : Int} (h : n < 18446744073709551616) : n < (big (2 ^ 250) : Int) := by
  rw [big_eq]
  have h1 : (18446744073709551616 : Nat) ≤ 2 ^ 250 := Nat.le_trans (m := 2 ^ 64) (by decide) (Nat.pow_le_pow_right (n := 2) (i := 64) (j := 250) (by decide) (by decide))
  exact Int.lt_of_lt_of_le h (Int.ofNat_le.mpr h1)
theorem divW_ok {i j : Int} (h0 : 0 < j) (h1 : j < (big (2 ^ 250) : Int)) : divW i j = true := by
  unfold divW
  rw [decide_eq_true h0, decide_eq_true h1]; rfl
theorem big64 : (big (2 ^ 64) : Int) = 18446744073709551616 := by rw [big_eq]; decide
theorem mulB_l {i j : Int} (h0 : 0 ≤ i) (h1 : i < 18446744073709551616) : mulB i j = true := by
  unfold mulB
  rw [big64, decide_eq_true (show -18446744073709551616 < i by omega), decide_eq_true h1]; rfl
theorem mulB_r {i j : Int} (h0 : 0 ≤ j) (h1 : j < 18446744073709551616) : mulB i j = true := by
  unfold mulB
  rw [big64, decide_eq_true (show -18446744073709551616 < j by omega), decide_eq_true h1, Bool.or_comm]; rfl
def tkA (a b : Int) : Int := (a + 1) * 2654435761 + b * 2654503651
def tkB (a b : Int) : Int := tkA a b % 4294967291 * (tkA a b / 4294967291 % 65521 + 2 * b + 3) % 4294967279
theorem take_spec (a b many : Int) (h0 : 0 < many) (h1 : many < (big (2 ^ 250) : Int)) : ∃ d a' b', mG_law_take [none, some (.int many)] [.int a, .int b] = some (.fz (.int d), [.int a', .int b']) ∧ 0 ≤ d ∧ d < many := by
  have mm : ∀ i, modB i many = true := fun i => by unfold modB; simp [h0]
  have dm : ∀ i, divW i many = true := fun i => divW_ok h0 h1
  have md : ∀ i j : Int, 0 < j → modB i j = true := fun i j h => by unfold modB; simp [h]
  have x0 : ixN 2 0 = some 0 := by unfold ixN; rfl
  have x1 : ixN 2 1 = some 1 := by unfold ixN; rfl
  by_cases hb : b = 0
  · subst hb
    refine ⟨a % many, a / many, 0, ?_, Int.emod_nonneg a (by omega), Int.emod_lt_of_pos a h0⟩
    unfold mG_law_take mirrorG gG_law_take startG
    simp [atI_0, atI_1, mm, dm, x0, List.replicate]
  · have hb' : (b == 0) = false := beq_eq_false_iff_ne.mpr hb
    have k1 : ∀ i, mulB i 2654435761 = true := fun i => mulB_r (by decide) (by decide)
    have k2 : ∀ i, mulB i 2654503651 = true := fun i => mulB_r (by decide) (by decide)
    have k3 : ∀ i, mulB 2 i = true := fun i => mulB_l (by decide) (by decide)
    have m1 : ∀ i, modB i 4294967291 = true := fun i => md _ _ (by decide)
    have m2 : ∀ i, modB i 65521 = true := fun i => md _ _ (by decide)
    have m3 : ∀ i, modB i 4294967279 = true := fun i => md _ _ (by decide)
    have m4 : ∀ i, modB i 4294967231 = true := fun i => md _ _ (by decide)
    have d1 : ∀ i, divW i 4294967291 = true := fun i => divW_ok (by decide) (big250 (by decide))
    have d2 : ∀ i, divW i 1024 = true := fun i => divW_ok (by decide) (big250 (by decide))
    have d3 : ∀ i, divW i 8 = true := fun i => divW_ok (by decide) (big250 (by decide))
    have k4 : ∀ i j, mulB (i % 4294967291) j = true := fun i j => mulB_l (Int.emod_nonneg _ (by decide)) (Int.lt_trans (Int.emod_lt_of_pos _ (by decide)) (by decide))
    have k5 : ∀ i j, mulB (i % 4294967279) j = true := fun i j => mulB_l (Int.emod_nonneg _ (by decide)) (Int.lt_trans (Int.emod_lt_of_pos _ (by decide)) (by decide))
    refine ⟨tkB a b * (tkB a b / 1024 + (b + 1)) % 4294967231 / 8 % many, a, b + 1, ?_, Int.emod_nonneg _ (by omega), Int.emod_lt_of_pos _ h0⟩
    unfold mG_law_take mirrorG gG_law_take startG tkB tkA
    simp only [List.map_cons, List.map_nil, Option.map_none, Option.map_some, List.length_cons, List.length_nil, List.replicate, List.cons_append, List.nil_append, List.getElem?_cons_zero, List.getElem?_cons_succ, Nat.reduceSub, Nat.zero_add, Nat.reduceAdd, e_mSeq, e_mIf, e_xB, e_x2, e_xGix, e_kC, atI_0, atI_1, e_xPV, Option.bind_some, e_pEqI, hb', e_mNil, e_mSet, e_xFz, e_xV, e_pAddI, e_fz, e_pI, k1, k2, k3, k4, k5, m1, m2, m3, m4, d1, d2, d3, mm, if_true, e_setES, e_setE0, e_dOf, e_b2, e_gSlS, e_gSl0, e_mGaug, Int.ofNat_one, x1, List.set_cons_succ, List.set_cons_zero, e_mRet, e_gFzS, e_gFz0]
theorem stock_spec (s : List Int) (k : Nat) : ∃ a b, m_law_stock [.list (nums s), .int (k : Int)] = some (.ow [.int a, .int b]) := by
  obtain ⟨c, hc⟩ := cell_spec s k
  have pw : powB 10 18 = true := by unfold powB; rw [big_eq, big_eq]; decide
  have m1 : ∀ i, modB i ((10 : Int) ^ (18 : Int).toNat) = true := fun i => by unfold modB; decide
  have m2 : modB (k : Int) 61 = true := by unfold modB; decide
  have u1 : ∀ i, mulB i 61 = true := fun i => mulB_r (by decide) (by decide)
  have c2 : (2 : Nat) ≤ cap := by rw [cap_eq]; decide
  unfold m_law_stock mirror g_law_stock startE
  generalize m_law_cell = mc at hc ⊢
  simp only [List.map_cons, List.map_nil, List.length_cons, List.length_nil, List.replicate, List.cons_append, List.nil_append, Nat.reduceSub, Nat.zero_add, Nat.reduceAdd, e_oSeq, e_oSet, e_fzOf, e_dOf, e_callD, e_aCons, e_gFzS, e_gFz0, e_aNil, Option.bind_some, Option.map_some, hc, e_fz, e_setES, e_setE0, e_oIf, e_bOf, e_b2, e_gSlS, e_gSl0, e_pAbs, e_kC, e_pI, pw, if_true]
  cases h : decide (((10 : Int) ^ (18 : Int).toNat) ≤ if c < 0 then -c else c) with
  | true =>
    refine ⟨if c < 0 then -c else c, 0, ?_⟩
    simp only [e_oRet, e_dLst, e_aCons, e_dOf, e_callD, e_gSlS, e_gSl0, e_fz, e_aNil, Option.bind_some, Option.map_some, e_pAbs, e_kC, List.length_cons, List.length_nil, Nat.zero_add, Nat.reduceAdd, c2, if_true]
  | false =>
    refine ⟨c % ((10 : Int) ^ (18 : Int).toNat) * 61 + (k : Int) % 61, 1, ?_⟩
    simp only [e_oNil, e_oSeq, e_oRet, e_dLst, e_aCons, e_dOf, e_b2, e_pI, e_pAddI, e_gSlS, e_gSl0, e_fz, e_aNil, Option.bind_some, Option.map_some, e_kC, pw, m1, m2, u1, List.length_cons, List.length_nil, Nat.zero_add, Nat.reduceAdd, c2, if_true]
end
end Com
namespace Com
open PySem L2 Bd
noncomputable section
theorem forM_inv {α : Type} {t : PyData → En → Option En} {body : GM} (emb : α → PyData) (Q : List α → En → List PyData → Prop) (h : ∀ x xs Γ l, Q (x :: xs) Γ l → ∃ Γ1 Γ' l', t (emb x) Γ = some Γ1 ∧ body Γ1 l = some (.nx Γ' l') ∧ Q xs Γ' l') :
    ∀ (xs : List α) (Γ : En) (l : List PyData), Q xs Γ l → ∃ Γ' l', Bd.forM t body (xs.map emb) Γ l = some (.nx Γ' l') ∧ Q [] Γ' l'
  | [], Γ, l, h0 => ⟨Γ, l, rfl, h0⟩
  | x :: xs, Γ, l, h0 => by
    obtain ⟨Γ1, Γ2, l2, h1, h2, h3⟩ := h x xs Γ l h0
    obtain ⟨Γ3, l3, h4, h5⟩ := forM_inv emb Q h xs Γ2 l2 h3
    refine ⟨Γ3, l3, ?_, h5⟩
    rw [List.map_cons]
    unfold Bd.forM
    rw [h1, Option.bind_some, h2]
    exact h4
def gG_law_shape_b1 : GM :=
  (mSeq (mLft (oApp 5 (gFz 4)))
  (mSeq (mIf (xB (x2 pEq (xV (xCallG 2 mG_law_take (gaG (gaV (xPV (kC (.int 3))) gaNil)))) (xPV (kC (.int 0)))))
  (mSeq (mSet 4 (xFz (xV (x2 pAdd (xPV (kC (.int 1))) (xV (xCallG 2 mG_law_take (gaG (gaV (xPV (gFz 4)) gaNil))))))))
  mNil)
  mNil)
  mNil))
def gG_law_shape : GM :=
  (mSeq (mSet 3 (xFz (xV (xCallG 2 mG_law_take (gaG (gaV (xPV (dOf (b2 pAdd (gSl 1) (kC (.int 1))))) gaNil))))))
  (mSeq (mSet 4 (xFz (xV (x2 pAdd (xPV (kC (.int 1))) (xV (xCallG 2 mG_law_take (gaG (gaV (xPV (gFz 2)) gaNil))))))))
  (mSeq (mLft (oSet 5 (dLst aNil)))
  (mSeq (mFor (xPI (iR1 (gSl 3))) (gNm 6)
  gG_law_shape_b1)
  (mSeq (mLft (oRetV 5))
  mNil)))))
def mG_law_shape : List (Option PyData) → List PyData → Option (Sl × List PyData) := mirrorG 7 0 gG_law_shape
theorem take_at (a b many : Int) (h0 : 0 < many) (h1 : many < 18446744073709551616) : ∃ d a' b', mG_law_take [none, some (.int many)] [.int a, .int b] = some (.fz (.int d), [.int a', .int b']) ∧ 0 ≤ d ∧ d < many := take_spec a b many h0 (big250 h1)
theorem shape_spec (a b most top : Int) (h0 : 0 ≤ most) (h1 : most ≤ 1000) (h2 : 1 ≤ top) (h3 : top < 1152921504606846976) : ∃ (r : List Int) (a' b' : Int), mG_law_shape [none, some (.int most), some (.int top)] [.int a, .int b] = some (.ow (nums r), [.int a', .int b']) ∧ (r.length : Int) ≤ most ∧ r.Pairwise (· ≥ ·) ∧ ∀ x ∈ r, 1 ≤ x ∧ x ≤ top := by
  obtain ⟨n, a1, b1, e1, n0, n1⟩ := take_at a b (most + 1) (by omega) (by omega)
  obtain ⟨d, a2, b2, e2, d0, d1⟩ := take_at a1 b1 top (by omega) (by omega)
  have c0 : (0 : Nat) ≤ cap := Nat.zero_le _
  obtain ⟨N, rfl⟩ : ∃ N : Nat, n = (N : Int) := ⟨n.toNat, by omega⟩
  have it : iR1 (gSl 3) [none, some (.fz (.int most)), some (.fz (.int top)), some (.fz (.int (N : Int))), some (.fz (.int (1 + d))), some (.ow []), none] = some ((List.range N).map fun (k : Nat) => PyData.int (k : Int)) := iR1_nat (by simp) (by omega)
  obtain ⟨Γ', l', lp, r, y, hr, a', b', rfl, rfl, rl, rp, rb, hh⟩ := forM_inv (t := gNm 6) (body := gG_law_shape_b1) (fun (k : Nat) => PyData.int (k : Int)) (fun rest Γ l => ∃ (r : List Int) (y : Option Sl) (hr a' b' : Int), Γ = [none, some (.fz (.int most)), some (.fz (.int top)), some (.fz (.int (N : Int))), some (.fz (.int hr)), some (.ow (nums r)), y] ∧ l = [.int a', .int b'] ∧ r.length + rest.length = N ∧ r.Pairwise (· ≥ ·) ∧ (∀ x ∈ r, 1 ≤ x ∧ x ≤ top ∧ hr ≤ x) ∧ 1 ≤ hr ∧ hr ≤ top)
    (fun k rest Γ l hp => by
      obtain ⟨r, y, hr, a', b', rfl, rfl, rl, rp, rb, hh⟩ := hp
      rw [List.length_cons] at rl
      obtain ⟨t3, a3, b3, e3, _, _⟩ := take_at a' b' 3 (by decide) (by decide)
      obtain ⟨t4, a4, b4, e4, t40, t41⟩ := take_at a3 b3 hr (by omega) (by omega)
      have cl : r.length < cap := by rw [cap_eq]; omega
      have rp' : (r ++ [hr]).Pairwise (· ≥ ·) := by
        rw [List.pairwise_append]
        exact ⟨rp, List.pairwise_singleton _ _, fun x hx z hz => by rw [List.mem_singleton.mp hz]; exact (rb x hx).2.2⟩
      have nm : nums (r ++ [hr]) = nums r ++ [PyData.int hr] := List.map_append
      have bb : ∀ h' : Int, h' ≤ hr → ∀ x ∈ r ++ [hr], 1 ≤ x ∧ x ≤ top ∧ h' ≤ x := fun h' hle x hx => by
        rcases List.mem_append.mp hx with q | q
        · have := rb x q; omega
        · rw [List.mem_singleton.mp q]; omega
      unfold gG_law_shape_b1
      generalize mG_law_take = mt at e3 e4
      by_cases hz : t3 = 0
      · have hz' : (t3 == 0) = true := by simpa using hz
        refine ⟨_, _, _, e_gNm, ?_, r ++ [hr], some (.fz (.int (k : Int))), 1 + t4, a4, b4, rfl, rfl, by rw [List.length_append, List.length_singleton]; omega, rp', bb _ (by omega), by omega, by omega⟩
        simp only [e_setES, e_setE0, e_mSeq, e_mLft, e_oApp, List.getElem?_cons_succ, List.getElem?_cons_zero, e_gFzS, e_gFz0, List.length_map, cl, if_true, e_mIf, e_xB, e_x2, e_xV, e_xCallG, e_gaG, e_gaV, e_xPV, e_kC, e_gaNil, Option.map_some, Option.bind_some, List.length_cons, List.length_nil, Nat.zero_add, Nat.reduceAdd, e3, e_fz, e_pEqI, hz', e_mSet, e_xFz, e4, e_pAddI, e_mNil, nm]
      · have hz' : (t3 == 0) = false := by simpa using hz
        refine ⟨_, _, _, e_gNm, ?_, r ++ [hr], some (.fz (.int (k : Int))), hr, a3, b3, rfl, rfl, by rw [List.length_append, List.length_singleton]; omega, rp', bb _ (by omega), by omega, by omega⟩
        simp only [e_setES, e_setE0, e_mSeq, e_mLft, e_oApp, List.getElem?_cons_succ, List.getElem?_cons_zero, e_gFzS, e_gFz0, List.length_map, cl, if_true, e_mIf, e_xB, e_x2, e_xV, e_xCallG, e_gaG, e_gaV, e_xPV, e_kC, e_gaNil, Option.map_some, Option.bind_some, List.length_cons, List.length_nil, Nat.zero_add, Nat.reduceAdd, e3, e_fz, e_pEqI, hz', e_mNil, nm]) (List.range N) [none, some (.fz (.int most)), some (.fz (.int top)), some (.fz (.int (N : Int))), some (.fz (.int (1 + d))), some (.ow []), none] [.int a2, .int b2] ⟨[], none, 1 + d, a2, b2, rfl, rfl, by simp, .nil, (fun x h => nomatch h), by omega, by omega⟩
  refine ⟨r, a', b', ?_, by simp at rl; omega, rp, fun x hx => ⟨(rb x hx).1, (rb x hx).2.1⟩⟩
  unfold mG_law_shape mirrorG gG_law_shape startG
  generalize mG_law_take = mt at e1 e2
  simp only [List.map_cons, List.map_nil, Option.map_none, Option.map_some, List.length_cons, List.length_nil, List.replicate, List.cons_append, List.nil_append, List.getElem?_cons_zero, List.getElem?_cons_succ, Nat.reduceSub, Nat.zero_add, Nat.reduceAdd, e_mSeq, e_mSet, e_xFz, e_xV, e_xCallG, e_gaG, e_gaV, e_xPV, e_dOf, e_b2, e_gSlS, e_gSl0, e_fz, e_kC, e_pAddI, Option.bind_some, e_gaNil, if_true, e1, e_setES, e_setE0, e_x2, e_gFzS, e_gFz0, e2, e_mLft, e_oSet, e_dLst, e_aNil, c0, e_mFor, e_xPI, it, lp, e_oRetV]
end
end Com
namespace Bd
open PySem L2
noncomputable section
section
variable {S : Sx}
def vIf (c : En → Option Bool) (f g : En → Option Sl) : En → Option Sl := fun Γ => match c Γ with
  | some true => f Γ
  | some false => g Γ
  | none => none
theorem se_if {c a b : Expr} {pos fc fa fb} (hc : ST S c fc) (ha : SE S a fa) (hb : SE S b fb) : SE S (.IfExp c a b pos) (vIf fc fa fb) := by
  obtain ⟨tc, c1, c2⟩ := hc
  obtain ⟨ta, a1, a2⟩ := ha
  obtain ⟨tb, b1, b2⟩ := hb
  refine ⟨tIf tc ta tb, fun X ok => pe_ifExp (c1 X ok) (a1 X ok) (b1 X ok), fun Γ σ H0 F H Q s E hf k => ?_⟩
  unfold vIf at hf
  split at hf
  · next q => exact c2 Γ σ H0 F H _ _ E q fun F1 H1 u1 => iteT (a2 Γ σ H0 F1 H1 Q s (E.mono u1) hf fun v2 F2 H2 u2 l2 => k v2 F2 H2 (u1.trans u2) (l2.weak u1.h))
  · next q => exact c2 Γ σ H0 F H _ _ E q fun F1 H1 u1 => iteF (b2 Γ σ H0 F1 H1 Q s (E.mono u1) hf fun v2 F2 H2 u2 l2 => k v2 F2 H2 (u1.trans u2) (l2.weak u1.h))
  · cases hf
end
end
end Bd
namespace Bd
open PySem L2
noncomputable section
section
variable {S : Sx}
theorem swp0 {ts vs : List Expr} {kt k2 : Nat} {pt pt2 : Pos} {env : Env} (hf : vs.all (foldedForSure 8) = true) : swappedStores [.Tuple ts kt pt] (.Tuple vs k2 pt2) env = pure none := by
  unfold swappedStores
  dsimp only
  split
  · rfl
  · split
    · rfl
    · split
      · rfl
      · first | rfl | rw [if_pos hf]
theorem ss_unpC {ts vs : List Expr} {kt k2 : Nat} {pt pt2 : Pos} {pos : Pos} {js : List Nat} {f g} (h : SV S (.Tuple vs k2 pt2) f) (hg : SG S (.Tuple ts kt pt) js g) (hk : GKp js g) (hf : vs.all (foldedForSure 8) = true := by rfl) (hs : ∀ X : Cx, swapsWithSole [.Tuple ts kt pt] (.Tuple vs k2 pt2) pos.line X.env = pure false := by intro _; rfl) (h1 : ∀ X : Cx, (assignEach [.Tuple ts kt pt] X.env).map (·.2) = [assign (.Tuple ts kt pt) X.env] := by intro _; rfl) :
    SS S (.Assign [.Tuple ts kt pt] (.Tuple vs k2 pt2) pos) js (oUnp f g) := ss_unp h hg hk hs (fun X => swp0 hf) h1
end
end
end Bd
namespace Bd
open PySem L2
noncomputable section
theorem EnR.freeze {K : PySem.W.Frag} {H0 F H : Hp} {Γ : En} {σ : St} (i : Nat) (R : EnR K H0 F H Γ σ) : ∃ F', EnR K H0 F' H (frzE i Γ) σ ∧ Same F F' := by
  unfold frzE
  split
  · next xs q =>
    obtain ⟨v, h1, a, vs, rfl, hF, hH, hda⟩ := R.sl i _ q
    have sF : Same F (upd F a (.lst vs)) := same_new hF
    have sH : Same (upd F a (.lst vs)) H := fun b o e => by
      by_cases hb : b = a
      · subst hb; rw [upd_same] at e; cases e; exact hH
      · rw [upd_ne hb] at e; exact R.fh b o e
    refine ⟨upd F a (.lst vs), ⟨sH, fun j s hj => ?_, fun j ys b e1 e2 => ?_, fun j k ys zs b e1 e2 e3 e4 => ?_, by unfold setE; rw [List.length_set]; exact R.ln⟩, sF⟩
    · unfold setE at hj
      rw [List.getElem?_set] at hj
      split at hj
      · next e =>
        subst e
        split at hj
        · cases hj; exact ⟨_, h1, .lst (SqL.of upd_same) (dpAll_mono sF hda)⟩
        · cases hj
      · next e =>
        obtain ⟨v, e1, e2⟩ := R.sl j s hj
        refine ⟨v, e1, ?_⟩
        cases s with
        | fz d => exact dp_mono sF e2
        | ow zs =>
          obtain ⟨b, ws, rfl, q1, q2, q3⟩ := e2
          have ne : b ≠ a := fun z => by subst z; exact e (R.ds i j xs zs b q hj h1 e1)
          exact ⟨b, ws, rfl, by rw [upd_ne ne]; exact q1, q2, dpAll_mono sF q3⟩
    · unfold setE at e1
      rw [List.getElem?_set] at e1
      split at e1
      · split at e1 <;> cases e1
      · exact R.nw j ys b e1 e2
    · unfold setE at e1 e2
      rw [List.getElem?_set] at e1 e2
      split at e1
      · split at e1 <;> cases e1
      · split at e2
        · split at e2 <;> cases e2
        · exact R.ds j k ys zs b e1 e2 e3 e4
  · exact ⟨F, R, .refl _⟩
def flatSl : Sl → Bool
  | .fz d => flatD d
  | .ow xs => xs.all flatD
def vLend (i : Nat) (f : En → Option Sl) : En → Option Sl := fun Γ => (f (frzE i Γ)).bind fun s => if flatSl s = true then some s else none
section
variable {S : Sx}
end
end
end Bd
namespace Bd
open PySem L2
noncomputable section
section
variable {S : Sx}
def oSwap (j : Nat) (f1 f2 fe : En → Option PyData) : En → Option Out := fun Γ => match Γ[j]?, fe Γ, f1 Γ with
  | some (some (.ow xs)), some (.tuple [d1, d2]), some (.int k1) => (ixN xs.length k1).bind fun n1 => match f2 (setE j (.ow (xs.set n1 d1)) Γ) with
    | some (.int k2) => (ixN xs.length k2).map fun n2 => .nx (setE j (.ow ((xs.set n1 d1).set n2 d2)) (setE j (.ow (xs.set n1 d1)) Γ))
    | _ => none
  | _, _, _ => none
end
end
end Bd
namespace Bd
open PySem L2
noncomputable section
section
variable {S : Sx}
theorem AG.data {K : PySem.W.Frag} {F : Hp} {a : Addr} : ∀ {vs : List V} {ds : List PyData}, DpAll K F vs ds → AG K F a (ds.map some) vs
  | _, _, .nil => .nil
  | _, _, .cons h t => .cons (o := some _) h (AG.data t)
def vCallT (n : Nat) (m : List (Option PyData) → List PyData → Option (Sl × List PyData)) (f0 : En → Option Sl) (r : En → Option (List PyData)) : En → Option Sl := fun Γ => match f0 Γ, r Γ with
  | some (.ow xs), some ds => if ds.length + 1 = n then (m (none :: ds.map some) xs).map fun p => p.1 else none
  | _, _ => none
theorem se_callT {x : Str} {ps : List Str} {m} {e : Expr} {es : List Expr} {p pos : Pos} {f0 r} (G : FnG S x ps m) (h0 : SE S e f0) (ha : SAV S es r) (hg : glB S.sc x = true := by kernel_rfl) (hdb : (x == ("__debug__" : Str)) = false := by decide)
    (he : ∀ X : Cx, starEach (e :: es) X.env = (false, eval e X.env) :: starEach es X.env := by intro _; rfl) (hpl : ∀ X : Cx, (backTo pos (starEach es X.env)).any (·.1) = false := by intro _; rfl) :
    SE S (.Call (.Name x p) (e :: es) [] pos) (vCallT ps.length m f0 r) := by
  obtain ⟨f, fd, j, F0, hj, hm, hk, hb⟩ := G.ex
  obtain ⟨t, a1, a2⟩ := h0
  obtain ⟨u, b1, b2⟩ := ha
  refine ⟨tCall (spG S.K ps.length m) [] E0 (tCons t u), fun X ok => ?_, fun Γ σ H0 F H Q s E hf k => ?_⟩
  · have F1 : FnOk X.prog X.w X.K X.mg X.base CX0 j f fd ps (spG S.K ps.length m) := by rw [ok.P, ok.w, ok.K, ok.mg, ok.base]; exact F0
    exact pe_call F1 (ok.room.mono hj) (ok.gl hg) (by rw [ok.mg]; exact hm) (by rw [ok.K]; exact hk) (by rw [ok.K]; exact hb) .nil pass0 (pa_cons (a1 X ok) (b1 X ok) (he X)) hdb (he X) (hpl X)
  · unfold vCallT at hf
    split at hf
    · next xs ds q1 q2 =>
      split at hf
      · next hl =>
        cases q3 : m (none :: ds.map some) xs with
        | none => rw [q3] at hf; cases hf
        | some y =>
          obtain ⟨s1, g1⟩ := y
          rw [q3] at hf; cases hf
          refine a2 Γ σ H0 F H _ _ E q1 fun v F1 H1 u1 l1 => ?_
          obtain ⟨⟨a, vs, rfl, r1, r2, r3⟩, r4⟩ := l1
          have ha := r4 xs a rfl rfl
          refine b2 Γ σ H0 F1 H1 _ _ (E.mono u1) q2 fun us F2 H2 u2 l2 => ?_
          show spG S.K ps.length m ((V.ref a :: us) ++ []) H2 Q E0
          rw [List.append_nil]
          have u12 := u1.trans u2
          have f2 := u2.o a _ r2 r1
          refine ⟨F2, a, none :: ds.map some, xs, s1, g1, u2.fh, by rw [List.length_cons, List.length_map]; exact hl, .cons (o := none) rfl (AG.data l2), f2, ⟨vs, u2.h _ _ r2, dpAll_mono u2.f r3⟩, q3, fun v F' H' ws z hv hd l => ?_⟩
          refine k v F' H' ⟨u12.f.trans z.f, fun c o e => ?_, z.fh, fun c o e1 e2 => z.o c o (u12.h c o e1) (u12.o c o e1 e2)⟩ (l.weak u12.h)
          exact z.h c o (fun w => by subst w; rw [ha] at e; cases e) (u12.h c o e)
      · cases hf
    · cases hf
end
structure SubXX (a b : Addr) (F H F' H' : Hp) : Prop where
  f : Same F F'
  h : ∀ c o, c ≠ a → c ≠ b → H c = some o → H' c = some o
  fh : Same F' H'
  o : ∀ c o, c ≠ b → H c = some o → F c = none → F' c = none
def spO (K : PySem.W.Frag) (m : List PyData → List PyData → Option (Sl × List PyData)) : L2.Sp := fun vs H Q _ =>
  ∃ F a b xs g s g', Same F H ∧ vs = [.ref b, .ref a] ∧ b ≠ a ∧ F a = none ∧ F b = none ∧ (∃ ws, H a = some (.lst ws) ∧ DpAll K F ws g) ∧ (∃ us, H b = some (.lst us) ∧ DpAll K F us xs) ∧ m xs g = some (s, g') ∧
    ∀ v F' H' ws, SubXX a b F H F' H' → H' a = some (.lst ws) → DpAll K F' ws g' → SlV K F' H' s v → (∀ ys c, s = .ow ys → v = .ref c → H c = none ∨ c = b) → Q v H'
structure FnO (S : Sx) (x : Str) (ps : List Str) (m : List PyData → List PyData → Option (Sl × List PyData)) : Prop where
  ex : ∃ (f : Addr) (fd : FuncData) (j : Nat), FnOk S.P S.w S.K S.mg S.base CX0 j f fd ps (spO S.K m) ∧ j ≤ S.k ∧ S.mg x = some (.ref f) ∧ PySem.W.keepIn S.K (.ref f) = true ∧ Binds S.K fd ps []
section
variable {S : Sx} {i : Nat}
def xCallO (m : List PyData → List PyData → Option (Sl × List PyData)) (f0 : En → List PyData → Option (Sl × List PyData)) : En → List PyData → Option (Sl × List PyData) := fun Γ g => match f0 Γ g with
  | some (.ow xs, g1) => m xs g1
  | _ => none
end
end
end Bd
namespace Bd
open PySem L2 PyProof.Rows
noncomputable section
section
variable {S : Sx} {i : Nat}
def xTup (f : En → List PyData → Option (List (Option PyData) × List PyData)) : En → List PyData → Option (Sl × List PyData) := fun Γ g => (f Γ g).bind fun y => (allS y.1).bind fun ds => if ds.length ≤ cap then some (.fz (.tuple ds), y.2) else none
def mPar2 (j1 j2 : Nat) (r : En → List PyData → Option (List (Option PyData) × List PyData)) : GM := fun Γ l => match r Γ l with
  | some ([some d, some e], l') => some (.nx (setE j2 (.fz e) (setE j1 (.fz d) Γ)) l')
  | _ => none
def mPar3 (j1 j2 j3 : Nat) (r : En → List PyData → Option (List (Option PyData) × List PyData)) : GM := fun Γ l => match r Γ l with
  | some ([some d, some e, some c], l') => some (.nx (setE j3 (.fz c) (setE j2 (.fz e) (setE j1 (.fz d) Γ))) l')
  | _ => none
end
end
end Bd
namespace Bd
open PySem L2
noncomputable section
section
variable {S : Sx}
end
end
end Bd
namespace Bd
open PySem L2
noncomputable section
section
variable {S : Sx} {i : Nat}
def mDrp2 (g : En2 → Option Out2) : GM := fun Γ l => match g (upE Γ) with
  | some (.rt (.sl s)) => some (.rt s l)
  | _ => none
end
section
variable {S : Sx}
end
structure SubA (a : Addr) (F H F' H' : Hp) : Prop where
  f : Same F F'
  h : ∀ b o, ¬ DA H (.ref a) b → H b = some o → H' b = some o
  fh : Same F' H'
  o : ∀ b o, H b = some o → F b = none → F' b = none
def spA (K : PySem.W.Frag) (m : List (List PyData) → Option (Bool × List (List PyData))) : L2.Sp := fun vs H Q _ =>
  ∃ F a xss c xss', Same F H ∧ vs = [.ref a] ∧ DwV K F H xss (.ref a) ∧ m xss = some (c, xss') ∧
    ∀ F' H', SubA a F H F' H' → DwV K F' H' xss' (.ref a) → (∀ b, DA H' (.ref a) b ↔ DA H (.ref a) b) → Q (.bl c) H'
structure FnA (S : Sx) (x : Str) (ps : List Str) (m : List (List PyData) → Option (Bool × List (List PyData))) : Prop where
  ex : ∃ (f : Addr) (fd : FuncData) (j : Nat), FnOk S.P S.w S.K S.mg S.base CX0 j f fd ps (spA S.K m) ∧ j ≤ S.k ∧ S.mg x = some (.ref f) ∧ PySem.W.keepIn S.K (.ref f) = true ∧ Binds S.K fd ps []
section
variable {S : Sx}
end
end
end Bd
namespace Bd
open PySem L2
noncomputable section
section
variable {S : Sx} {i : Nat}
def mUnp (f : En → List PyData → Option (PyData × List PyData)) (g : PyData → En → Option En) : GM := fun Γ l => (f Γ l).bind fun p => (g p.1 Γ).map fun Γ' => .nx Γ' p.2
end
end
end Bd
namespace Bd
open PySem L2
noncomputable section
section
variable {S : Sx}
def vRepL (fa : En → Option Sl) (g : En → Option PyData) : En → Option Sl := fun Γ => match fa Γ, g Γ with
  | some (.ow xs), some (.int k) => if 0 ≤ k ∧ k ≤ (cap : Int) ∧ xs.length * k.toNat ≤ cap then some (.ow (List.replicate k.toNat xs).flatten) else none
  | _, _ => none
end
end
end Bd
namespace Com
open PySem L2 Bd
noncomputable section
section
variable {f g : En → Option PyData} {c : En → Option Bool} {fs gs : En → Option Sl} {Γ : En} {l : List PyData}
theorem e_oPar {i j : Nat} {a : En → Option (List PyData)} : oPar i j a Γ = (match a Γ with | some [d, e] => some (.nx (setE j (.fz e) (setE i (.fz d) Γ))) | _ => none) := id rfl
theorem e_oAug {i : Nat} {h : Int → Int → Int} : oAug i h f Γ = (match gSl i Γ, f Γ with | some (.int x), some (.int y) => some (.nx (setE i (.fz (.int (h x y))) Γ)) | _, _ => none) := id rfl
theorem e_oRevS {i : Nat} : oRevS i Γ = (match Γ[i]? with | some (some (.ow xs)) => some (.nx (setE i (.ow xs.reverse) Γ)) | _ => none) := id rfl
theorem e_vIf : vIf c fs gs Γ = (match c Γ with | some true => fs Γ | some false => gs Γ | none => none) := id rfl
theorem e_vLend {i : Nat} : vLend i fs Γ = (fs (frzE i Γ)).bind fun s => if flatSl s = true then some s else none := id rfl
theorem e_flatO {ns : List Int} : flatSl (.ow (nums ns)) = true := flat_nums ns
theorem e_flatFB {b : Bool} : flatSl (.fz (.bool b)) = true := id rfl
theorem e_flatFI {b : Int} : flatSl (.fz (.int b)) = true := id rfl
theorem e_oSwap {j : Nat} {f1 f2 fe : En → Option PyData} : oSwap j f1 f2 fe Γ = (match Γ[j]?, fe Γ, f1 Γ with | some (some (.ow xs)), some (.tuple [d1, d2]), some (.int k1) => (ixN xs.length k1).bind fun n1 => (match f2 (setE j (.ow (xs.set n1 d1)) Γ) with | some (.int k2) => (ixN xs.length k2).map fun n2 => .nx (setE j (.ow ((xs.set n1 d1).set n2 d2)) (setE j (.ow (xs.set n1 d1)) Γ)) | _ => none) | _, _, _ => none) := id rfl
theorem e_vCallT {n : Nat} {m : List (Option PyData) → List PyData → Option (Sl × List PyData)} {r : En → Option (List PyData)} : vCallT n m fs r Γ = (match fs Γ, r Γ with | some (.ow xs), some ds => if ds.length + 1 = n then (m (none :: ds.map some) xs).map fun p => p.1 else none | _, _ => none) := id rfl
theorem e_xCallO {m : List PyData → List PyData → Option (Sl × List PyData)} {f0 : En → List PyData → Option (Sl × List PyData)} : xCallO m f0 Γ l = (match f0 Γ l with | some (.ow xs, g1) => m xs g1 | _ => none) := id rfl
theorem e_mIns {j : Nat} {fi fv : En → List PyData → Option (PyData × List PyData)} : mIns j fi fv Γ l = (match Γ[j]?, fi Γ l with | some (some (.ow xs)), some (.int kk, l1) => (match fv Γ l1 with | some (d, l2) => if 0 ≤ kk ∧ kk.toNat ≤ xs.length ∧ xs.length < cap then some (.nx (setE j (.ow (xs.take kk.toNat ++ d :: xs.drop kk.toNat)) Γ) l2) else none | none => none) | _, _ => none) := id rfl
theorem e_mSetIx {j : Nat} {fv : En → List PyData → Option (PyData × List PyData)} : mSetIx j f fv Γ l = (match Γ[j]?, fv Γ l, f Γ with | some (some (.ow xs)), some (d, l'), some (.int k) => (ixN xs.length k).map fun n => .nx (setE j (.ow (xs.set n d)) Γ) l' | _, _, _ => none) := id rfl
theorem e_mUnp {f : En → List PyData → Option (PyData × List PyData)} {u : PyData → En → Option En} : mUnp f u Γ l = (f Γ l).bind fun p => (u p.1 Γ).map fun Γ' => .nx Γ' p.2 := id rfl
theorem e_mPar2 {j1 j2 : Nat} {r : En → List PyData → Option (List (Option PyData) × List PyData)} : mPar2 j1 j2 r Γ l = (match r Γ l with | some ([some d, some e], l') => some (.nx (setE j2 (.fz e) (setE j1 (.fz d) Γ)) l') | _ => none) := id rfl
theorem e_mPar3 {j1 j2 j3 : Nat} {r : En → List PyData → Option (List (Option PyData) × List PyData)} : mPar3 j1 j2 j3 r Γ l = (match r Γ l with | some ([some d, some e, some c], l') => some (.nx (setE j3 (.fz c) (setE j2 (.fz e) (setE j1 (.fz d) Γ))) l') | _ => none) := id rfl
theorem e_xTup {r : En → List PyData → Option (List (Option PyData) × List PyData)} : xTup r Γ l = (r Γ l).bind fun y => (allS y.1).bind fun ds => if ds.length ≤ cap then some (.fz (.tuple ds), y.2) else none := id rfl
theorem e_allN : allS [] = some [] := id rfl
theorem e_allC {d : PyData} {os : List (Option PyData)} : allS (some d :: os) = (allS os).map (d :: ·) := id rfl
theorem e_mDrp2 {k : En2 → Option Out2} : mDrp2 k Γ l = (match k (upE Γ) with | some (.rt (.sl s)) => some (.rt s l) | _ => none) := id rfl
theorem e_xLst {r : En → List PyData → Option (List (Option PyData) × List PyData)} : xLst r Γ l = (r Γ l).bind fun y => (allS y.1).bind fun ds => if ds.length ≤ cap then some (.ow ds, y.2) else none := id rfl
theorem e_gTpl3 {g h k : PyData → En → Option En} {a b c : PyData} : gTpl 3 (gsCons g (gsCons h (gsCons k gsNil))) (.tuple [a, b, c]) Γ = (g a Γ).bind fun Γ1 => (h b Γ1).bind fun Γ2 => (k c Γ2).bind fun Γ3 => some Γ3 := by
  unfold gTpl gsCons gsNil
  simp only [List.length_cons, List.length_nil]
  rfl
theorem e_vRepL : vRepL fs f Γ = (match fs Γ, f Γ with | some (.ow xs), some (.int k) => if 0 ≤ k ∧ k ≤ (cap : Int) ∧ xs.length * k.toNat ≤ cap then some (.ow (List.replicate k.toNat xs).flatten) else none | _, _ => none) := id rfl
theorem e_pInt1B {b : Bool} : pInt1 [.bool b] = some (.fz (.int (if b then 1 else 0))) := id rfl
theorem e_oAugIx {i : Nat} {h : Int → Int → Int} : oAugIx i h f g Γ = (match Γ[i]?, f Γ, g Γ with | some (some (.ow xs)), some (.int k), some (.int y) => (if 0 ≤ k then (match xs[k.toNat]? with | some (.int x) => some (.nx (setE i (.ow (xs.set k.toNat (.int (h x y)))) Γ)) | _ => none) else none) | _, _, _ => none) := id rfl
theorem e_gGh {i : Nat} {k : GM} : gGh i fs k Γ = (match fs Γ with | some (.ow xs) => if i < Γ.length then (match k (Γ.set i none) xs with | some (.rt s _) => some (.rt s) | _ => none) else none | _ => none) := id rfl
theorem e_isB {a b : Bool} : pIsB false (.bool a) (.bool b) = some (.fz (.bool (a == b))) := id rfl
theorem e_isNotBB {a b : Bool} : pIsB true (.bool a) (.bool b) = some (.fz (.bool (!(a == b)))) := id rfl
theorem e_oUnp {u : PyData → En → Option En} : oUnp f u Γ = (f Γ).bind fun d => (u d Γ).map Out.nx := id rfl
theorem e_iZp : iZp f g Γ = (match f Γ, g Γ with | some (.list xs), some (.list ys) => some (zipD xs ys) | _, _ => none) := id rfl
theorem e_oSetIxM {i : Nat} : oSetIx i f g Γ = (match Γ[i]?, f Γ, g Γ with | some (some (.ow xs)), some (.int k), some d => (ixN xs.length k).map fun j => .nx (setE i (.ow (xs.set j d)) Γ) | _, _, _ => none) := id rfl
theorem e_isBB {b : Bool} : isTy "bool" (.bool b) = true := by unfold isTy; rfl
theorem e_oWhile {n : Nat} {b : En → Option Out} : oWhile n c b Γ = whileD c b n Γ := id rfl
theorem e_pSum {ns : List Int} : pSum [.list (nums ns)] = some (.fz (.int ns.sum)) := by
  unfold pSum
  dsimp only
  rw [toInts_map]; rfl
end
end
end Com
namespace Tb
open PySem L2 Bd
open Com hiding g_law_row m_law_row
noncomputable section
def g_many_columns : En → Option Out :=
  (oSeq (oRet (vIf (bOf (b2 pGt (dOf (callD pLen (aCons (gSl 0) aNil))) (kC (.int 0)))) (callD pLen (aCons (dOf (b2 pIx (gSl 0) (kC (.int 0)))) aNil)) (fzOf (kC (.int 0)))))
  oNil)
def m_many_columns : List PyData → Option Sl := mirror 1 g_many_columns
def g_columns_of : En → Option Out :=
  (oSeq (oRet (vLc (iR1 (dOf (callD m_many_columns (aCons (gFz 0) aNil)))) (gNm 2) bYes (dOf (vLc (iLst (gSl 0)) (gNm 1) bYes (dOf (b2 pIx (gSl 1) (gSl 2))) [1])) [2]))
  oNil)
def m_columns_of : List PyData → Option Sl := mirror 3 g_columns_of
def g_law_cell_at : En → Option Out :=
  (oSeq (oIf (bOf (b2 pLt (gSl 1) (dOf (callD pLen (aCons (gSl 0) aNil)))))
  (oSeq (oRet (b2 pIx (gSl 0) (gSl 1)))
  oNil)
  oNil)
  (oSeq (oRet (fzOf (kC (.int 0))))
  oNil))
def m_law_cell_at : List PyData → Option Sl := mirror 2 g_law_cell_at
def g_law_big_b1 : En → Option Out :=
  (oSeq (oSet 7 (fzOf (dOf (b2 pAdd (dOf (b2 pAdd (dOf (b2 pMod (dOf (callD m_law_cell_at (aCons (gFz 0) (aCons (dOf (b2 pAdd (gSl 1) (dOf (b2 pMod (gSl 6) (kC (.int 9)))))) aNil)))) (dOf (b2 pPow (kC (.int 10)) (kC (.int 18)))))) (kC (.int 1)))) (dOf (b2 pMul (gSl 6) (gSl 6)))))))
  (oSeq (oSet 5 (fzOf (dOf (b2 pAdd (dOf (b2 pMul (gSl 5) (kC (.int 7919)))) (dOf (b2 pMod (dOf (b2 pMod (dOf (b2 pMul (gSl 7) (dOf (b2 pIx (gSl 2) (dOf (b2 pMod (gSl 6) (kC (.int 8)))))))) (dOf (b2 pIx (gSl 3) (dOf (b2 pMod (gSl 6) (kC (.int 8)))))))) (kC (.int 7919))))))))
  oNil))
def g_law_big : En → Option Out :=
  (oSeq (oSet 2 (fzOf (dOf (dTup (aCons (kC (.int 48271)) (aCons (kC (.int 69621)) (aCons (kC (.int 16807)) (aCons (kC (.int 39373)) (aCons (kC (.int 21401)) (aCons (kC (.int 60493)) (aCons (kC (.int 87721)) (aCons (kC (.int 31337)) aNil))))))))))))
  (oSeq (oSet 3 (fzOf (dOf (dTup (aCons (kC (.int 99991)) (aCons (kC (.int 99989)) (aCons (kC (.int 99971)) (aCons (kC (.int 99961)) (aCons (kC (.int 99929)) (aCons (kC (.int 99923)) (aCons (kC (.int 99907)) (aCons (kC (.int 99901)) aNil))))))))))))
  (oSeq (oSet 4 (fzOf (dOf (callD m_law_cell_at (aCons (gFz 0) (aCons (gFz 1) aNil))))))
  (oSeq (oIf (bOf (b2 pGe (gSl 4) (dOf (b2 pPow (kC (.int 10)) (kC (.int 18))))))
  (oSeq (oRetV 4)
  oNil)
  oNil)
  (oSeq (oSet 5 (fzOf (kC (.int 0))))
  (oSeq (oFor (iR1 (kC (.int 60))) (gNm 6)
  g_law_big_b1)
  (oSeq (oRetV 5)
  oNil)))))))
def m_law_big : List PyData → Option Sl := mirror 8 g_law_big
def gG_law_digit : GM :=
  (mSeq (mSet 2 (xFz (xV (x2 pMod (xGix (kC (.int 0))) (xPV (gFz 1))))))
  (mSeq (mGset (kC (.int 0)) (xV (x2 pDivW (xGix (kC (.int 0))) (xPV (gFz 1)))))
  (mSeq (mLft (oRetV 2))
  mNil)))
def mG_law_digit : List (Option PyData) → List PyData → Option (Sl × List PyData) := mirrorG 3 0 gG_law_digit
def gG_law_number : GM :=
  (mSeq (mLft (oSet 2 (fzOf (dOf (b2 pIx (dOf (dTup (aCons (kC (.int 3)) (aCons (kC (.int 100)) (aCons (dOf (b2 pPow (kC (.int 10)) (kC (.int 12)))) (aCons (dOf (b2 pPow (kC (.int 10)) (kC (.int 60)))) aNil)))))) (gSl 1))))))
  (mSeq (mSet 3 (xFz (xV (x2 pSub (xPV (kC (.int 1))) (xV (x2 pMul (xPV (kC (.int 2))) (xV (xCallG 2 mG_law_digit (gaG (gaV (xPV (kC (.int 2))) gaNil))))))))))
  (mSeq (mRet (x2 pMul (xPV (gFz 3)) (xV (xCallG 2 mG_law_digit (gaG (gaV (xPV (gFz 2)) gaNil))))))
  mNil)))
def mG_law_number : List (Option PyData) → List PyData → Option (Sl × List PyData) := mirrorG 4 0 gG_law_number
def gG_law_row_b1 : GM :=
  (mSeq (mApp 5 (xV (xCallG 2 mG_law_number (gaG (gaV (xPV (gFz 3)) gaNil)))))
  mNil)
def g_law_row : En → Option Out :=
  (gGh 4 (dLst (aCons (dOf (callD m_law_big (aCons (gFz 0) (aCons (gFz 1) aNil)))) aNil))
  (mSeq (mLft (oSet 5 (dLst aNil)))
  (mSeq (mFor (xPI (iR1 (gSl 2))) (gNm 6)
  gG_law_row_b1)
  (mSeq (mLft (oRetV 5))
  mNil))))
def m_law_row : List PyData → Option Sl := mirror 7 g_law_row
def LT60 (x : Int) : Prop := x.natAbs < 10 ^ 60
end
end Tb
namespace Tb
open PySem L2 Bd
open Com hiding g_law_row m_law_row
noncomputable section
def colsT (t : List (List Int)) (w : Nat) : List (List Int) := (List.range w).map fun (j : Nat) => t.map fun r => r.getD j 0
def Small (x : Int) : Prop := x.natAbs < big (2 ^ 20000)
theorem LT60.small {x : Int} (h : LT60 x) : Small x := by
  unfold LT60 at h
  unfold Small
  rw [big_eq]
  have h1 : (10 : Nat) ^ 60 ≤ 2 ^ 200 := by decide
  have h2 : (2 : Nat) ^ 200 ≤ 2 ^ 20000 := Nat.pow_le_pow_right (by decide) (by decide)
  omega
theorem many_spec (t : List (List Int)) (w : Nat) (h0 : t ≠ [] ∨ w = 0) (hw : ∀ r ∈ t, r.length = w) : m_many_columns [.list (rows t)] = some (.fz (.int (w : Int))) := by
  unfold m_many_columns mirror g_many_columns startE
  cases t with
  | nil =>
    have : w = 0 := by rcases h0 with h | h; exact absurd rfl h; exact h
    subst this
    simp only [List.map_cons, List.map_nil, List.length_cons, List.length_nil, List.replicate, List.cons_append, List.nil_append, List.getElem?_cons_zero, List.getElem?_cons_succ, List.set_cons_succ, List.set_cons_zero, Nat.reduceSub, Nat.zero_add, Nat.reduceAdd, Option.map_some, Option.map_none, Option.bind_some, if_true, List.length_map, List.length_range, e_setE0, e_setES, e_dOf, e_fzOf, e_fz, e_ow, e_gSl0, e_gSlS, e_gFz0, e_gFzS, e_kC, e_aNil, e_aCons, e_dLst, e_dTup, e_b2, e_pI, e_pAddI, e_pAddL, e_callD, e_bOf, e_bNot, e_bTru, e_truB, e_bAnd, e_bOr, e_vAnd, e_bYes, e_pLenL, e_pLenT, e_pAbs, e_pListOf, e_pIxL, e_pIxT, e_vIsi, e_iLst, e_iEnm, e_gNm, e_oNil, e_oSeq, e_oSet, e_oRet, e_oIf, e_oFor, e_oFrz, e_vLc, e_frz0w, e_frz0f, e_frzS, e_wipeN, e_wipeC, e_oRetV, e_oApp, e_oExt, e_iOwn, e_iOwnE, e_gTpl2, e_pEqI, e_pNeI, e_pNeB, e_pEqB, e_vChain, e_vNeg, e_vRev, e_oInt, e_dSl, e_vNot, e_vOr, e_vLc2, e_isiL, e_isiI, e_isiB, e_isBB, e_oPar, e_oAug, e_oRevS, e_vIf, e_gGh, e_vRepL, e_pInt1B, e_oAugIx, e_mUnp, e_mPar2, e_mPar3, e_xTup, e_xLst, e_allN, e_allC, e_mDrp2, e_gTpl3, e_oSwap, e_vCallT, e_xCallO, e_mIns, e_mSetIx, e_vLend, e_flatO, e_flatFB, e_flatFI, e_isB, e_isNotBB, e_oUnp, e_iZp, e_oSetIxM, e_oIns, e_oWhile, e_xPV, e_xP, e_xPB, e_xPI, e_xV, e_xFz, e_x2, e_x2N, e_xB, e_xGix, e_mNil, e_mSeq, e_mIf, e_mRet, e_mSet, e_mGset, e_mGaug, e_mLft, e_mFor, e_mApp, e_gaNil, e_gaV, e_gaG, e_xCallG, Nat.reduceLT, Nat.reduceLeDiff, Int.natCast_zero, Int.lt_irrefl, decide_false]
  | cons r t =>
    have d : decide ((0 : Int) < ((t.length + 1 : Nat) : Int)) = true := decide_eq_true (by omega)
    have hr := hw r List.mem_cons_self
    have a0 : atI (rowD r :: t.map rowD) 0 = some (rowD r) := atI_of (by decide) rfl
    simp only [List.map_cons, List.map_nil, List.length_cons, List.length_nil, List.replicate, List.cons_append, List.nil_append, List.getElem?_cons_zero, List.getElem?_cons_succ, List.set_cons_succ, List.set_cons_zero, Nat.reduceSub, Nat.zero_add, Nat.reduceAdd, Option.map_some, Option.map_none, Option.bind_some, if_true, List.length_map, List.length_range, e_setE0, e_setES, e_dOf, e_fzOf, e_fz, e_ow, e_gSl0, e_gSlS, e_gFz0, e_gFzS, e_kC, e_aNil, e_aCons, e_dLst, e_dTup, e_b2, e_pI, e_pAddI, e_pAddL, e_callD, e_bOf, e_bNot, e_bTru, e_truB, e_bAnd, e_bOr, e_vAnd, e_bYes, e_pLenL, e_pLenT, e_pAbs, e_pListOf, e_pIxL, e_pIxT, e_vIsi, e_iLst, e_iEnm, e_gNm, e_oNil, e_oSeq, e_oSet, e_oRet, e_oIf, e_oFor, e_oFrz, e_vLc, e_frz0w, e_frz0f, e_frzS, e_wipeN, e_wipeC, e_oRetV, e_oApp, e_oExt, e_iOwn, e_iOwnE, e_gTpl2, e_pEqI, e_pNeI, e_pNeB, e_pEqB, e_vChain, e_vNeg, e_vRev, e_oInt, e_dSl, e_vNot, e_vOr, e_vLc2, e_isiL, e_isiI, e_isiB, e_isBB, e_oPar, e_oAug, e_oRevS, e_vIf, e_gGh, e_vRepL, e_pInt1B, e_oAugIx, e_mUnp, e_mPar2, e_mPar3, e_xTup, e_xLst, e_allN, e_allC, e_mDrp2, e_gTpl3, e_oSwap, e_vCallT, e_xCallO, e_mIns, e_mSetIx, e_vLend, e_flatO, e_flatFB, e_flatFI, e_isB, e_isNotBB, e_oUnp, e_iZp, e_oSetIxM, e_oIns, e_oWhile, e_xPV, e_xP, e_xPB, e_xPI, e_xV, e_xFz, e_x2, e_x2N, e_xB, e_xGix, e_mNil, e_mSeq, e_mIf, e_mRet, e_mSet, e_mGset, e_mGaug, e_mLft, e_mFor, e_mApp, e_gaNil, e_gaV, e_gaG, e_xCallG, Nat.reduceLT, Nat.reduceLeDiff, d, a0]
    rw [hr]
theorem columns_spec (t : List (List Int)) (w : Nat) (h0 : t ≠ [] ∨ w = 0) (hw : ∀ r ∈ t, r.length = w) (hl : t.length < 1000) (hw1 : w < 1000) : m_columns_of [.list (rows t)] = some (.ow (rows (colsT t w))) := by
  have mc := many_spec t w h0 hw
  have c1 : w < cap := by rw [cap_eq]; omega
  have c2 : t.length < cap := by rw [cap_eq]; omega
  have it : iR1 (dOf (callD m_many_columns (aCons (gFz 0) aNil))) [some (.fz (.list (rows t))), none, none] = some ((List.range w).map fun (k : Nat) => PyData.int (k : Int)) := iR1_nat (by
    generalize m_many_columns = mm at mc
    simp only [List.map_cons, List.map_nil, List.length_cons, List.length_nil, List.replicate, List.cons_append, List.nil_append, List.getElem?_cons_zero, List.getElem?_cons_succ, List.set_cons_succ, List.set_cons_zero, Nat.reduceSub, Nat.zero_add, Nat.reduceAdd, Option.map_some, Option.map_none, Option.bind_some, if_true, List.length_map, List.length_range, e_setE0, e_setES, e_dOf, e_fzOf, e_fz, e_ow, e_gSl0, e_gSlS, e_gFz0, e_gFzS, e_kC, e_aNil, e_aCons, e_dLst, e_dTup, e_b2, e_pI, e_pAddI, e_pAddL, e_callD, e_bOf, e_bNot, e_bTru, e_truB, e_bAnd, e_bOr, e_vAnd, e_bYes, e_pLenL, e_pLenT, e_pAbs, e_pListOf, e_pIxL, e_pIxT, e_vIsi, e_iLst, e_iEnm, e_gNm, e_oNil, e_oSeq, e_oSet, e_oRet, e_oIf, e_oFor, e_oFrz, e_vLc, e_frz0w, e_frz0f, e_frzS, e_wipeN, e_wipeC, e_oRetV, e_oApp, e_oExt, e_iOwn, e_iOwnE, e_gTpl2, e_pEqI, e_pNeI, e_pNeB, e_pEqB, e_vChain, e_vNeg, e_vRev, e_oInt, e_dSl, e_vNot, e_vOr, e_vLc2, e_isiL, e_isiI, e_isiB, e_isBB, e_oPar, e_oAug, e_oRevS, e_vIf, e_gGh, e_vRepL, e_pInt1B, e_oAugIx, e_mUnp, e_mPar2, e_mPar3, e_xTup, e_xLst, e_allN, e_allC, e_mDrp2, e_gTpl3, e_oSwap, e_vCallT, e_xCallO, e_mIns, e_mSetIx, e_vLend, e_flatO, e_flatFB, e_flatFI, e_isB, e_isNotBB, e_oUnp, e_iZp, e_oSetIxM, e_oIns, e_oWhile, e_xPV, e_xP, e_xPB, e_xPI, e_xV, e_xFz, e_x2, e_x2N, e_xB, e_xGix, e_mNil, e_mSeq, e_mIf, e_mRet, e_mSet, e_mGset, e_mGaug, e_mLft, e_mFor, e_mApp, e_gaNil, e_gaV, e_gaG, e_xCallG, Nat.reduceLT, Nat.reduceLeDiff, mc]) (by omega)
  have lc : lcD (gNm 2) bYes (dOf (vLc (iLst (gSl 0)) (gNm 1) bYes (dOf (b2 pIx (gSl 1) (gSl 2))) [1])) [some (.fz (.list (rows t))), none, none] ((List.range w).map fun (k : Nat) => PyData.int (k : Int)) = some (rows (colsT t w)) := by
    have e : rows (colsT t w) = (List.range w).map fun (j : Nat) => rowD (t.map fun r => r.getD j 0) := by unfold colsT rows; rw [List.map_map]; rfl
    rw [e]
    refine lcD_map _ _ _ fun j hj => ?_
    have hj := List.mem_range.mp hj
    have lc2 : lcD (gNm 1) bYes (dOf (b2 pIx (gSl 1) (gSl 2))) [some (.fz (.list (rows t))), none, some (.fz (.int (j : Int)))] (rows t) = some (nums (t.map fun r => r.getD j 0)) := by
      unfold nums
      rw [List.map_map]
      refine lcD_map rowD _ t fun r hr => ?_
      have hrw := hw r hr
      have a1 : atI (nums r) (j : Int) = some (.int (r.getD j 0)) := atI_ints (by omega) (by simp [show j < r.length by omega])
      unfold rowD
      simp only [List.map_cons, List.map_nil, List.length_cons, List.length_nil, List.replicate, List.cons_append, List.nil_append, List.getElem?_cons_zero, List.getElem?_cons_succ, List.set_cons_succ, List.set_cons_zero, Nat.reduceSub, Nat.zero_add, Nat.reduceAdd, Option.map_some, Option.map_none, Option.bind_some, if_true, List.length_map, List.length_range, e_setE0, e_setES, e_dOf, e_fzOf, e_fz, e_ow, e_gSl0, e_gSlS, e_gFz0, e_gFzS, e_kC, e_aNil, e_aCons, e_dLst, e_dTup, e_b2, e_pI, e_pAddI, e_pAddL, e_callD, e_bOf, e_bNot, e_bTru, e_truB, e_bAnd, e_bOr, e_vAnd, e_bYes, e_pLenL, e_pLenT, e_pAbs, e_pListOf, e_pIxL, e_pIxT, e_vIsi, e_iLst, e_iEnm, e_gNm, e_oNil, e_oSeq, e_oSet, e_oRet, e_oIf, e_oFor, e_oFrz, e_vLc, e_frz0w, e_frz0f, e_frzS, e_wipeN, e_wipeC, e_oRetV, e_oApp, e_oExt, e_iOwn, e_iOwnE, e_gTpl2, e_pEqI, e_pNeI, e_pNeB, e_pEqB, e_vChain, e_vNeg, e_vRev, e_oInt, e_dSl, e_vNot, e_vOr, e_vLc2, e_isiL, e_isiI, e_isiB, e_isBB, e_oPar, e_oAug, e_oRevS, e_vIf, e_gGh, e_vRepL, e_pInt1B, e_oAugIx, e_mUnp, e_mPar2, e_mPar3, e_xTup, e_xLst, e_allN, e_allC, e_mDrp2, e_gTpl3, e_oSwap, e_vCallT, e_xCallO, e_mIns, e_mSetIx, e_vLend, e_flatO, e_flatFB, e_flatFI, e_isB, e_isNotBB, e_oUnp, e_iZp, e_oSetIxM, e_oIns, e_oWhile, e_xPV, e_xP, e_xPB, e_xPI, e_xV, e_xFz, e_x2, e_x2N, e_xB, e_xGix, e_mNil, e_mSeq, e_mIf, e_mRet, e_mSet, e_mGset, e_mGaug, e_mLft, e_mFor, e_mApp, e_gaNil, e_gaV, e_gaG, e_xCallG, Nat.reduceLT, Nat.reduceLeDiff, a1, Function.comp]
    simp only [List.map_cons, List.map_nil, List.length_cons, List.length_nil, List.replicate, List.cons_append, List.nil_append, List.getElem?_cons_zero, List.getElem?_cons_succ, List.set_cons_succ, List.set_cons_zero, Nat.reduceSub, Nat.zero_add, Nat.reduceAdd, Option.map_some, Option.map_none, Option.bind_some, if_true, List.length_map, List.length_range, e_setE0, e_setES, e_dOf, e_fzOf, e_fz, e_ow, e_gSl0, e_gSlS, e_gFz0, e_gFzS, e_kC, e_aNil, e_aCons, e_dLst, e_dTup, e_b2, e_pI, e_pAddI, e_pAddL, e_callD, e_bOf, e_bNot, e_bTru, e_truB, e_bAnd, e_bOr, e_vAnd, e_bYes, e_pLenL, e_pLenT, e_pAbs, e_pListOf, e_pIxL, e_pIxT, e_vIsi, e_iLst, e_iEnm, e_gNm, e_oNil, e_oSeq, e_oSet, e_oRet, e_oIf, e_oFor, e_oFrz, e_vLc, e_frz0w, e_frz0f, e_frzS, e_wipeN, e_wipeC, e_oRetV, e_oApp, e_oExt, e_iOwn, e_iOwnE, e_gTpl2, e_pEqI, e_pNeI, e_pNeB, e_pEqB, e_vChain, e_vNeg, e_vRev, e_oInt, e_dSl, e_vNot, e_vOr, e_vLc2, e_isiL, e_isiI, e_isiB, e_isBB, e_oPar, e_oAug, e_oRevS, e_vIf, e_gGh, e_vRepL, e_pInt1B, e_oAugIx, e_mUnp, e_mPar2, e_mPar3, e_xTup, e_xLst, e_allN, e_allC, e_mDrp2, e_gTpl3, e_oSwap, e_vCallT, e_xCallO, e_mIns, e_mSetIx, e_vLend, e_flatO, e_flatFB, e_flatFI, e_isB, e_isNotBB, e_oUnp, e_iZp, e_oSetIxM, e_oIns, e_oWhile, e_xPV, e_xP, e_xPB, e_xPI, e_xV, e_xFz, e_x2, e_x2N, e_xB, e_xGix, e_mNil, e_mSeq, e_mIf, e_mRet, e_mSet, e_mGset, e_mGaug, e_mLft, e_mFor, e_mApp, e_gaNil, e_gaV, e_gaG, e_xCallG, Nat.reduceLT, Nat.reduceLeDiff, c2, lc2]
  unfold m_columns_of mirror g_columns_of startE
  generalize m_many_columns = mm at it
  simp only [List.map_cons, List.map_nil, List.length_cons, List.length_nil, List.replicate, List.cons_append, List.nil_append, List.getElem?_cons_zero, List.getElem?_cons_succ, List.set_cons_succ, List.set_cons_zero, Nat.reduceSub, Nat.zero_add, Nat.reduceAdd, Option.map_some, Option.map_none, Option.bind_some, if_true, List.length_map, List.length_range, e_setE0, e_setES, e_dOf, e_fzOf, e_fz, e_ow, e_gSl0, e_gSlS, e_gFz0, e_gFzS, e_kC, e_aNil, e_aCons, e_dLst, e_dTup, e_b2, e_pI, e_pAddI, e_pAddL, e_callD, e_bOf, e_bNot, e_bTru, e_truB, e_bAnd, e_bOr, e_vAnd, e_bYes, e_pLenL, e_pLenT, e_pAbs, e_pListOf, e_pIxL, e_pIxT, e_vIsi, e_iLst, e_iEnm, e_gNm, e_oNil, e_oSeq, e_oSet, e_oRet, e_oIf, e_oFor, e_oFrz, e_vLc, e_frz0w, e_frz0f, e_frzS, e_wipeN, e_wipeC, e_oRetV, e_oApp, e_oExt, e_iOwn, e_iOwnE, e_gTpl2, e_pEqI, e_pNeI, e_pNeB, e_pEqB, e_vChain, e_vNeg, e_vRev, e_oInt, e_dSl, e_vNot, e_vOr, e_vLc2, e_isiL, e_isiI, e_isiB, e_isBB, e_oPar, e_oAug, e_oRevS, e_vIf, e_gGh, e_vRepL, e_pInt1B, e_oAugIx, e_mUnp, e_mPar2, e_mPar3, e_xTup, e_xLst, e_allN, e_allC, e_mDrp2, e_gTpl3, e_oSwap, e_vCallT, e_xCallO, e_mIns, e_mSetIx, e_vLend, e_flatO, e_flatFB, e_flatFI, e_isB, e_isNotBB, e_oUnp, e_iZp, e_oSetIxM, e_oIns, e_oWhile, e_xPV, e_xP, e_xPB, e_xPI, e_xV, e_xFz, e_x2, e_x2N, e_xB, e_xGix, e_mNil, e_mSeq, e_mIf, e_mRet, e_mSet, e_mGset, e_mGaug, e_mLft, e_mFor, e_mApp, e_gaNil, e_gaV, e_gaG, e_xCallG, Nat.reduceLT, Nat.reduceLeDiff, it, c1, lc]
end
end Tb
namespace Bd
open PySem L2 PyProof.Rows
noncomputable section
section
variable {prog : Program} {w : World} {A : Around} {E : Value → Shared → Prop} {s : Shared}
end
end
end Bd
namespace Bd
open PySem L2
noncomputable section
section
variable {X : Cx}
end
section
variable {S : Sx} {Z : St → Prop}
def ZE (S : Sx) (Z : St → Prop) (e : Expr) (f : En → Option Sl) : Prop :=
  ∃ t : TE, (∀ X, S.Ok X → PE X e t) ∧ ∀ Γ σ H0 F H Q s, EnR S.K H0 F H Γ σ → Z σ → f Γ = some s → (∀ v F' H', Sub F H F' H' → SlN S.K H F' H' s v → Q v H') → t σ H Q
def ZV (S : Sx) (Z : St → Prop) (e : Expr) (f : En → Option PyData) : Prop :=
  ∃ t : TE, (∀ X, S.Ok X → PE X e t) ∧ ∀ Γ σ H0 F H Q d, EnR S.K H0 F H Γ σ → Z σ → f Γ = some d → (∀ v F' H', Sub F H F' H' → Dp S.K F' v d → Q v H') → t σ H Q
def ZT (S : Sx) (Z : St → Prop) (e : Expr) (f : En → Option Bool) : Prop :=
  ∃ t : TT, (∀ X, S.Ok X → PT X e t) ∧ ∀ Γ σ H0 F H Q b, EnR S.K H0 F H Γ σ → Z σ → f Γ = some b → (∀ F' H', Sub F H F' H' → Q b H') → t σ H Q
def ZW (S : Sx) (Z : St → Prop) (e : Expr) (f : En → Option Bool) : Prop :=
  ∃ t : TT, (∀ X, S.Ok X → PW X e t) ∧ ∀ Γ σ H0 F H Q b, EnR S.K H0 F H Γ σ → Z σ → f Γ = some b → (∀ F' H', Sub F H F' H' → Q b H') → t σ H Q
def ZSs (S : Sx) (Z : St → Prop) (sts : List Stmt) (T : List Nat) (g : En → Option Out) : Prop :=
  ∃ t : TS, (∀ X, S.Ok X → PSs X sts t) ∧ ∀ F0 H0 F H Γ σ D o, StR S.K F0 H0 F H Γ σ → Z σ → g Γ = some o → EndR S.K F0 H0 T Γ σ H D o → t D σ H
def ZS (S : Sx) (Z : St → Prop) (st : Stmt) (T : List Nat) (g : En → Option Out) : Prop :=
  ∃ t : TS, (∀ X, S.Ok X → PS X st t) ∧ ∀ F0 H0 F H Γ σ D o, StR S.K F0 H0 F H Γ σ → Z σ → g Γ = some o → EndR S.K F0 H0 T Γ σ H D o → t D σ H
theorem SE.z {e : Expr} {f} (h : SE S e f) : ZE S Z e f := by
  obtain ⟨t, a1, a2⟩ := h
  exact ⟨t, a1, fun Γ σ H0 F H Q s E _ => a2 Γ σ H0 F H Q s E⟩
theorem SV.z {e : Expr} {f} (h : SV S e f) : ZV S Z e f := by
  obtain ⟨t, a1, a2⟩ := h
  exact ⟨t, a1, fun Γ σ H0 F H Q s E _ => a2 Γ σ H0 F H Q s E⟩
theorem SS.z {st : Stmt} {T f} (h : SS S st T f) : ZS S Z st T f := by
  obtain ⟨t, a1, a2⟩ := h
  exact ⟨t, a1, fun F0 H0 F H Γ σ D o R _ => a2 F0 H0 F H Γ σ D o R⟩
theorem SSs.z {st : List Stmt} {T f} (h : SSs S st T f) : ZSs S Z st T f := by
  obtain ⟨t, a1, a2⟩ := h
  exact ⟨t, a1, fun F0 H0 F H Γ σ D o R _ => a2 F0 H0 F H Γ σ D o R⟩
theorem ST.z {e : Expr} {f} (h : ST S e f) : ZT S Z e f := by
  obtain ⟨t, a1, a2⟩ := h
  exact ⟨t, a1, fun Γ σ H0 F H Q s E _ => a2 Γ σ H0 F H Q s E⟩
theorem ZE.v {e : Expr} {f : En → Option Sl} (h : ZE S Z e f) : ZV S Z e (dOf f) := by
  obtain ⟨t, h1, h2⟩ := h
  refine ⟨t, h1, fun Γ σ H0 F H Q d E hZ hf k => ?_⟩
  unfold dOf at hf
  cases q : f Γ with
  | none => rw [q] at hf; cases hf
  | some s =>
    rw [q] at hf; cases hf
    refine h2 Γ σ H0 F H Q s E hZ q fun v F' H' u r => ?_
    cases s with
    | fz d => exact k v F' H' u r.1
    | ow xs =>
      obtain ⟨⟨a, vs, rfl, r1, r2, r3⟩, r4⟩ := r
      have ha := r4 xs a rfl rfl
      refine k _ (upd F' a (.lst vs)) H' ⟨u.f.trans (same_new r1), u.h, fun b o e => ?_, fun b o e1 e2 => ?_⟩ (.lst (SqL.of upd_same) (dpAll_mono (same_new r1) r3))
      · by_cases hb : b = a
        · subst hb; rw [upd_same] at e; cases e; exact r2
        · rw [upd_ne hb] at e; exact u.fh b o e
      · rw [upd_ne (ne_of_none e1 ha)]; exact u.o b o e1 e2
theorem ZW.t {e : Expr} {f} (h : ZW S Z e f) : ZT S Z e f := by
  obtain ⟨t, a1, a2⟩ := h
  exact ⟨t, fun X ok => (a1 X ok).pt, a2⟩
end
end
end Bd
namespace Ra
abbrev Rw := Nat → Int
def wdg (r : Rw) : (List Nat → Int) → List Nat → Int
  | F, [] => 0
  | F, c :: cs => r c * F cs - wdg r (fun ds => F (c :: ds)) cs
theorem wdg_zero (r : Rw) : ∀ (cs : List Nat) (F : List Nat → Int), (∀ ds, F ds = 0) → wdg r F cs = 0
  | [], F, h => rfl
  | c :: cs, F, h => by unfold wdg; rw [h, wdg_zero r cs _ fun ds => h (c :: ds)]; simp
theorem wdg_lin (r : Rw) (a b : Int) : ∀ (cs : List Nat) (F G : List Nat → Int), wdg r (fun ds => a * F ds + b * G ds) cs = a * wdg r F cs + b * wdg r G cs
  | [], F, G => by simp [wdg]
  | c :: cs, F, G => by
    unfold wdg
    rw [wdg_lin r a b cs (fun ds => F (c :: ds)) fun ds => G (c :: ds)]
    rw [Int.mul_sub, Int.mul_sub, Int.mul_add]
    have e1 : r c * (a * F cs) = a * (r c * F cs) := by rw [← Int.mul_assoc, Int.mul_comm (r c) a, Int.mul_assoc]
    have e2 : r c * (b * G cs) = b * (r c * G cs) := by rw [← Int.mul_assoc, Int.mul_comm (r c) b, Int.mul_assoc]
    rw [e1, e2]
    omega
theorem wdg_row (a b : Int) (r s : Rw) : ∀ (cs : List Nat) (F : List Nat → Int), wdg (fun x => a * r x + b * s x) F cs = a * wdg r F cs + b * wdg s F cs
  | [], F => by simp [wdg]
  | c :: cs, F => by
    unfold wdg
    rw [wdg_row a b r s cs fun ds => F (c :: ds)]
    rw [Int.mul_sub, Int.mul_sub, Int.add_mul, Int.mul_assoc, Int.mul_assoc]
    omega
theorem wdg_anti (r s : Rw) : ∀ (cs : List Nat) (F : List Nat → Int), wdg r (wdg s F) cs = - wdg s (wdg r F) cs
  | [], F => rfl
  | c :: cs, F => by
    have ih := wdg_anti r s cs fun ds => F (c :: ds)
    have e1 : wdg r (wdg s F) (c :: cs) = r c * wdg s F cs - wdg r (fun ds => s c * F ds + (-1) * wdg s (fun es => F (c :: es)) ds) cs := by
      show r c * wdg s F cs - wdg r (fun ds => wdg s F (c :: ds)) cs = _
      congr 2
      funext ds
      show s c * F ds - wdg s (fun es => F (c :: es)) ds = _
      omega
    have e2 : wdg s (wdg r F) (c :: cs) = s c * wdg r F cs - wdg s (fun ds => r c * F ds + (-1) * wdg r (fun es => F (c :: es)) ds) cs := by
      show s c * wdg r F cs - wdg s (fun ds => wdg r F (c :: ds)) cs = _
      congr 2
      funext ds
      show r c * F ds - wdg r (fun es => F (c :: es)) ds = _
      omega
    rw [e1, e2, wdg_lin, wdg_lin]
    rw [ih]
    omega
theorem wdg_self (r : Rw) (cs : List Nat) (F : List Nat → Int) : wdg r (wdg r F) cs = 0 := by
  have := wdg_anti r r cs F
  omega
def dt : List Rw → List Nat → Int
  | [] => fun cs => if cs = [] then 1 else 0
  | r :: rs => wdg r (dt rs)
theorem wdg_in : ∀ (A : List Rw) (r : Rw), r ∈ A → ∀ cs, wdg r (dt A) cs = 0
  | b :: A, r, h, cs => by
    show wdg r (wdg b (dt A)) cs = 0
    rcases List.mem_cons.mp h with rfl | h
    · exact wdg_self r cs _
    · rw [wdg_anti, wdg_zero b cs _ fun ds => wdg_in A r h ds]; rfl
theorem wdg_van (u : Rw) : ∀ (C : List Nat) (G : List Nat → Int), (∀ c ∈ C, u c = 0) → wdg u G C = 0
  | [], G, _ => rfl
  | c :: C, G, h => by
    unfold wdg
    rw [h c List.mem_cons_self, wdg_van u C _ fun d hd => h d (List.mem_cons_of_mem _ hd)]; simp
theorem wdg_one (u : Rw) (C : List Nat) (F : List Nat → Int) (x : Nat) (h : ∀ c ∈ C, u c = 0) : wdg u F (x :: C) = u x * F C := by
  unfold wdg
  rw [wdg_van u C _ h]; omega
inductive Cmb (A : List Rw) : Rw → Prop
  | zero : Cmb A fun _ => 0
  | add {u : Rw} {b : Rw} (k : Int) : b ∈ A → Cmb A u → Cmb A fun x => u x + k * b x
theorem Cmb.wdg {A : List Rw} {u : Rw} (h : Cmb A u) (cs : List Nat) : wdg u (dt A) cs = 0 := by
  induction h with
  | zero =>
    have := wdg_row 0 0 (fun _ => 0) (fun _ => 0) cs (dt A)
    simp at this
    exact this
  | @add u b k hb _ ih =>
    have := wdg_row 1 k u b cs (dt A)
    rw [ih, wdg_in A b hb] at this
    have e : (fun x => u x + k * b x) = fun x => 1 * u x + k * b x := by funext x; omega
    rw [e, this]; omega
theorem Cmb.sum {A : List Rw} {u v : Rw} (h : Cmb A u) (h2 : Cmb A v) : Cmb A fun x => u x + v x := by
  induction h2 with
  | zero => simpa using h
  | @add w b k hb _ ih =>
    have := Cmb.add k hb ih
    have e : (fun x => u x + (w x + k * b x)) = fun x => (u x + w x) + k * b x := by funext x; omega
    rw [e]; exact this
theorem Cmb.mul {A : List Rw} {u : Rw} (m : Int) (h : Cmb A u) : Cmb A fun x => m * u x := by
  induction h with
  | zero => simpa using Cmb.zero
  | @add w b k hb _ ih =>
    have := Cmb.add (m * k) hb ih
    have e : (fun x => m * (w x + k * b x)) = fun x => m * w x + (m * k) * b x := by funext x; rw [Int.mul_add, Int.mul_assoc]
    rw [e]; exact this
theorem Cmb.wider {A : List Rw} {b u : Rw} (h : Cmb A u) : Cmb (b :: A) u := by
  induction h with
  | zero => exact .zero
  | add k hb _ ih => exact .add k (List.mem_cons_of_mem _ hb) ih
theorem wdg_cmb {A : List Rw} (b : Rw) : ∀ (ds : List Nat) (G : Nat → List Nat → Int), (∀ es, Cmb A fun x => G x es) → Cmb A fun x => wdg b (G x) ds
  | [], G, _ => Cmb.zero
  | c :: ds, G, h => by
    have ih := wdg_cmb b ds (fun x es => G x (c :: es)) fun es => h (c :: es)
    have h1 := (h ds).mul (b c)
    have h2 := ih.mul (-1)
    have := h1.sum h2
    have e : (fun x => wdg b (G x) (c :: ds)) = fun x => b c * G x ds + -1 * wdg b (fun es => G x (c :: es)) ds := by
      funext x
      show b c * G x ds - wdg b (fun es => G x (c :: es)) ds = _
      omega
    rw [e]; exact this
theorem dt_cmb : ∀ (A : List Rw) (ds : List Nat), Cmb A fun x => dt A (x :: ds)
  | [], ds => by
    have e : (fun x => dt [] (x :: ds)) = fun _ => 0 := by funext x; simp [dt]
    rw [e]; exact .zero
  | b :: A, ds => by
    have h1 : Cmb (b :: A) fun x => wdg b (fun es => dt A (x :: es)) ds := (wdg_cmb b ds (fun x es => dt A (x :: es)) fun es => dt_cmb A es).wider
    have h2 := Cmb.add (dt A ds) (List.mem_cons_self (a := b) (l := A)) (h1.mul (-1))
    have e : (fun x => dt (b :: A) (x :: ds)) = fun x => -1 * wdg b (fun es => dt A (x :: es)) ds + dt A ds * b x := by
      funext x
      show b x * dt A ds - wdg b (fun es => dt A (x :: es)) ds = _
      rw [Int.mul_comm (b x)]
      omega
    rw [e]; exact h2
theorem lft_cmb (A : List Rw) (C : List Nat) (u : Rw) : Cmb A fun x => dt A C * u x - wdg u (dt A) (x :: C) := by
  have h := wdg_cmb u C (fun x es => dt A (x :: es)) fun es => dt_cmb A es
  have e : (fun x => dt A C * u x - wdg u (dt A) (x :: C)) = fun x => wdg u (fun es => dt A (x :: es)) C := by
    funext x
    show dt A C * u x - (u x * dt A C - wdg u (fun es => dt A (x :: es)) C) = _
    rw [Int.mul_comm (dt A C)]
    omega
  rw [e]; exact h
theorem exact {A : List Rw} {C : List Nat} {u v : Rw} {a : Nat} (hD : dt A C ≠ 0) (hu : ∀ c ∈ C, wdg u (dt A) (c :: C) = 0) (hv : ∀ c ∈ C, wdg v (dt A) (c :: C) = 0) (x : Nat) :
    wdg v (dt A) (x :: C) * wdg u (dt A) (a :: C) - wdg u (dt A) (x :: C) * wdg v (dt A) (a :: C) = dt A C * wdg v (wdg u (dt A)) (x :: a :: C) := by
  generalize hF : dt A = F at *
  generalize hDe : F C = D at *
  let u' : Rw := fun y => wdg u F (y :: C)
  let v' : Rw := fun y => wdg v F (y :: C)
  have cu := lft_cmb A C u
  have cv := lft_cmb A C v
  rw [hF, hDe] at cu cv
  have wu : ∀ cs, wdg u' F cs = D * wdg u F cs := fun cs => by
    have h0 := cu.wdg cs
    rw [hF] at h0
    have h1 := wdg_row D (-1) u u' cs F
    have e : (fun x => D * u x - wdg u F (x :: C)) = fun x => D * u x + -1 * u' x := by funext y; show _ = D * u y + -1 * wdg u F (y :: C); omega
    rw [e, h1] at h0
    omega
  have wv : ∀ cs, wdg v' (wdg u F) cs = D * wdg v (wdg u F) cs := fun cs => by
    have h0 : ∀ ds, wdg (fun x => D * v x - wdg v F (x :: C)) F ds = 0 := fun ds => by have := cv.wdg ds; rw [hF] at this; exact this
    have h2 : wdg (fun x => D * v x - wdg v F (x :: C)) (wdg u F) cs = 0 := by rw [wdg_anti, wdg_zero u cs _ h0]; rfl
    have h1 := wdg_row D (-1) v v' cs (wdg u F)
    have e : (fun x => D * v x - wdg v F (x :: C)) = fun x => D * v x + -1 * v' x := by funext y; show _ = D * v y + -1 * wdg v F (y :: C); omega
    rw [e, h1] at h2
    omega
  have key : D * (D * wdg v (wdg u F) (x :: a :: C)) = D * (v' x * u' a - v' a * u' x) := by
    have g1 : ∀ y, wdg u' F (y :: C) = u' y * D := fun y => by rw [wdg_one u' C F y hu, hDe]
    have e1 : wdg v' (wdg u' F) (x :: a :: C) = D * wdg v' (wdg u F) (x :: a :: C) := by
      have e : wdg u' F = fun cs => D * wdg u F cs + 0 * wdg u F cs := by funext cs; rw [wu]; omega
      rw [e, wdg_lin]; omega
    have e2 : wdg v' (wdg u' F) (x :: a :: C) = v' x * (u' a * D) - v' a * (u' x * D) := by
      show v' x * wdg u' F (a :: C) - (v' a * wdg u' F (x :: C) - wdg v' (fun ds => wdg u' F (x :: a :: ds)) C) = _
      rw [g1 a, g1 x, wdg_van v' C _ hv]; omega
    rw [← wv, ← e1, e2, Int.mul_sub, ← Int.mul_assoc, ← Int.mul_assoc, Int.mul_comm (v' x * u' a), Int.mul_comm (v' a * u' x)]
  have k2 := Int.eq_of_mul_eq_mul_left hD key
  show v' x * u' a - u' x * v' a = D * wdg v (wdg u F) (x :: a :: C)
  rw [k2, Int.mul_comm (u' x)]
end Ra
namespace Ra
inductive Sp (P : Rw → Prop) : Rw → Prop
  | base {u : Rw} : P u → Sp P u
  | zero : Sp P fun _ => 0
  | lin (a b : Int) {u v : Rw} : Sp P u → Sp P v → Sp P fun x => a * u x + b * v x
  | div (k : Int) {u : Rw} : k ≠ 0 → (Sp P fun x => k * u x) → Sp P u
theorem Sp.trans {P Q : Rw → Prop} (h : ∀ u, P u → Sp Q u) {v : Rw} (hv : Sp P v) : Sp Q v := by
  induction hv with
  | base q => exact h _ q
  | zero => exact .zero
  | lin a b _ _ i j => exact .lin a b i j
  | div k hk _ i => exact .div k hk i
theorem Sp.mul {P : Rw → Prop} (a : Int) {u : Rw} (h : Sp P u) : Sp P fun x => a * u x := by
  have := Sp.lin a 0 h h
  have e : (fun x => a * u x + 0 * u x) = fun x => a * u x := by funext x; omega
  rw [e] at this; exact this
theorem Sp.sub {P : Rw → Prop} {u v : Rw} (h : Sp P u) (k : Sp P v) : Sp P fun x => u x - v x := by
  have := Sp.lin 1 (-1) h k
  have e : (fun x => 1 * u x + -1 * v x) = fun x => u x - v x := by funext x; omega
  rw [e] at this; exact this
theorem Sp.add {P : Rw → Prop} {u v : Rw} (h : Sp P u) (k : Sp P v) : Sp P fun x => u x + v x := by
  have := Sp.lin 1 1 h k
  have e : (fun x => 1 * u x + 1 * v x) = fun x => u x + v x := by funext x; omega
  rw [e] at this; exact this
def In (l : List Rw) : Rw → Prop := fun u => u ∈ l
def Tri : List Rw → Prop
  | [] => True
  | e :: es => (∃ c, e c ≠ 0 ∧ ∀ f ∈ es, f c = 0) ∧ Tri es
def fn (r : List Int) : Rw := fun x => r.getD x 0
def Rs (T : List (List Int)) : Rw → Prop := fun u => ∃ r ∈ T, u = fn r
def clr (row lead : List Int) (c : Nat) (d : Int) : List Int := List.zipWith (fun a b => (a * lead.getD c 0 - b * row.getD c 0) / d) row lead
structure EInv (B : Nat) (T : List (List Int)) (w col : Nat) (piv rest : List (List Int)) (d : Int) : Prop where
  fm : ∃ (A : List Rw) (C : List Nat), d = dt A C ∧ (A.length = piv.length ∧ C.length = piv.length ∧ (∀ a ∈ A, (∀ x, (a x).natAbs ≤ B) ∧ Rs T a) ∧ ∀ c ∈ C, c < col) ∧ ∀ r ∈ rest, (∃ o : Rw, ((∀ x, (o x).natAbs ≤ B) ∧ Rs T o) ∧ ∀ x, fn r x = wdg o (dt A) (x :: C)) ∧ ∀ c ∈ C, fn r c = 0
  ln : piv.length + rest.length = T.length
  d0 : d ≠ 0
  wd : ∀ r ∈ piv ++ rest, r.length = w
  z : ∀ r ∈ rest, ∀ x, x < col → fn r x = 0
  tr : Tri (piv.map fn)
  tv : ∀ l1 e l2, piv.map fn = l1 ++ e :: l2 → ∃ c, c < col ∧ e c ≠ 0 ∧ (∀ f ∈ l2, f c = 0) ∧ ∀ r ∈ rest, fn r c = 0
  s1 : ∀ r ∈ T, Sp (Rs (piv ++ rest)) (fn r)
  s2 : ∀ r ∈ piv ++ rest, Sp (Rs T) (fn r)
theorem tri_of : ∀ (l : List Rw), (∀ l1 e l2, l = l1 ++ e :: l2 → ∃ c, e c ≠ 0 ∧ ∀ f ∈ l2, f c = 0) → Tri l
  | [], _ => trivial
  | e :: l, h => ⟨by obtain ⟨c, h1, h2⟩ := h [] e l rfl; exact ⟨c, h1, h2⟩, tri_of l fun l1 f l2 q => h (e :: l1) f l2 (by rw [q]; rfl)⟩
theorem EInv.start {B : Nat} {T : List (List Int)} {w : Nat} (hw : ∀ r ∈ T, r.length = w) (hB : ∀ r ∈ T, ∀ x, (fn r x).natAbs ≤ B) : EInv B T w 0 [] T 1 :=
  ⟨⟨[], [], rfl, ⟨rfl, rfl, (fun a h => nomatch h), (fun c h => nomatch h)⟩, fun r hr => ⟨⟨fn r, ⟨hB r hr, r, hr, rfl⟩, fun x => by show _ = fn r x * 1 - 0; omega⟩, fun c hc => nomatch hc⟩⟩, Nat.zero_add _, by decide, hw, fun _ _ x hx => absurd hx (Nat.not_lt_zero x), trivial, (fun l1 e l2 h => by cases l1 <;> cases h), fun r hr => .base ⟨r, hr, rfl⟩, fun r hr => .base ⟨r, hr, rfl⟩⟩
theorem clr_fn {row lead : List Int} {c : Nat} {d : Int} (h : row.length = lead.length) (x : Nat) : fn (clr row lead c d) x = (fn row x * fn lead c - fn lead x * fn row c) / d := by
  unfold clr fn
  by_cases hx : x < row.length
  · rw [List.getD, List.getElem?_zipWith, List.getElem?_eq_getElem hx, List.getElem?_eq_getElem (by omega)]
    simp [List.getD, hx, show x < lead.length by omega]
  · have e1 : row.getD x 0 = 0 := by simp [List.getD, List.getElem?_eq_none (Nat.le_of_not_lt hx)]
    have e2 : lead.getD x 0 = 0 := by simp [List.getD, List.getElem?_eq_none (show lead.length ≤ x by omega)]
    rw [e1, e2, List.getD, List.getElem?_eq_none (by rw [List.length_zipWith]; omega)]
    simp
theorem EInv.exact {B : Nat} {T : List (List Int)} {w col : Nat} {piv rest : List (List Int)} {d : Int} (I : EInv B T w col piv rest d) {u v : List Int} (hu : u ∈ rest) (hv : v ∈ rest) (x : Nat) :
    d * fn (clr v u col d) x = fn v x * fn u col - fn u x * fn v col ∧ d ∣ fn v x * fn u col - fn u x * fn v col := by
  have wu := I.wd u (List.mem_append_right _ hu)
  have wv := I.wd v (List.mem_append_right _ hv)
  obtain ⟨A, C, hd, _, hr⟩ := I.fm
  obtain ⟨⟨ou, _, eu⟩, zu⟩ := hr u hu
  obtain ⟨⟨ov, _, ev⟩, zv⟩ := hr v hv
  have ex := Ra.exact (A := A) (C := C) (u := ou) (v := ov) (a := col) (by rw [← hd]; exact I.d0) (fun c hc => by rw [← eu]; exact zu c hc) (fun c hc => by rw [← ev]; exact zv c hc) x
  rw [← ev, ← eu, ← eu, ← ev, ← hd] at ex
  rw [clr_fn (by omega), ex, Int.mul_ediv_cancel_left _ I.d0]
  exact ⟨rfl, ⟨_, rfl⟩⟩
theorem EInv.step {B : Nat} {T : List (List Int)} {w col : Nat} {piv rest : List (List Int)} {d : Int} (I : EInv B T w col piv rest d) {u : List Int} {tl : List (List Int)} (hm : ∀ r, r ∈ rest ↔ r ∈ u :: tl) (hl : rest.length = tl.length + 1) (hp : fn u col ≠ 0) :
    EInv B T w (col + 1) (piv ++ [u]) (tl.map fun v => clr v u col d) (fn u col) := by
  have hu : u ∈ rest := (hm u).mpr List.mem_cons_self
  have htl : ∀ v ∈ tl, v ∈ rest := fun v hv => (hm v).mpr (List.mem_cons_of_mem _ hv)
  have wu := I.wd u (List.mem_append_right _ hu)
  have old : ∀ r, r ∈ piv ++ rest → r ∈ piv ∨ r = u ∨ r ∈ tl := fun r h => by
    rcases List.mem_append.mp h with h | h
    · exact .inl h
    · exact .inr (List.mem_cons.mp ((hm r).mp h))
  have hd0 := I.d0
  refine ⟨?_, by have := I.ln; rw [List.length_append, List.length_singleton, List.length_map]; omega, hp, fun r hr => ?_, fun r hr x hx => ?_, ?_, ?_, fun r hr => ?_, fun r hr => ?_⟩
  · obtain ⟨A, C, hd, ⟨la, lc, ba, bc⟩, hr⟩ := I.fm
    obtain ⟨⟨ou, bu, eu⟩, zu⟩ := hr u hu
    refine ⟨ou :: A, col :: C, by rw [eu]; rfl, ⟨by rw [List.length_append, List.length_cons, List.length_singleton, la], by rw [List.length_append, List.length_cons, List.length_singleton, lc], fun a ha => by
      rcases List.mem_cons.mp ha with rfl | ha
      · exact bu
      · exact ba a ha, fun c hc => by
      rcases List.mem_cons.mp hc with rfl | hc
      · exact Nat.lt_succ_self _
      · exact Nat.lt_succ_of_lt (bc c hc)⟩, fun r hr' => ?_⟩
    obtain ⟨v, hv, rfl⟩ := List.mem_map.mp hr'
    have hv' := htl v hv
    have wv := I.wd v (List.mem_append_right _ hv')
    obtain ⟨⟨ov, bv, ev⟩, zv⟩ := hr v hv'
    refine ⟨⟨ov, bv, fun x => ?_⟩, fun c hc => ?_⟩
    · have ex := Ra.exact (A := A) (C := C) (u := ou) (v := ov) (a := col) (by rw [← hd]; exact hd0) (fun c hc => by rw [← eu]; exact zu c hc) (fun c hc => by rw [← ev]; exact zv c hc) x
      rw [← ev, ← eu, ← eu, ← ev, ← hd] at ex
      rw [clr_fn (by omega), ex, Int.mul_ediv_cancel_left _ hd0]
      rfl
    · rw [clr_fn (by omega)]
      rcases List.mem_cons.mp hc with rfl | hc
      · rw [show fn v c * fn u c - fn u c * fn v c = 0 by rw [Int.mul_comm]; omega]; simp
      · rw [zu c hc, zv c hc]; simp
  · rcases List.mem_append.mp hr with h | h
    · rcases List.mem_append.mp h with h | h
      · exact I.wd r (List.mem_append_left _ h)
      · rw [List.mem_singleton.mp h]; exact wu
    · obtain ⟨v, hv, rfl⟩ := List.mem_map.mp h
      have wv := I.wd v (List.mem_append_right _ (htl v hv))
      unfold clr
      rw [List.length_zipWith]; omega
  · obtain ⟨v, hv, rfl⟩ := List.mem_map.mp hr
    have hv' := htl v hv
    have wv := I.wd v (List.mem_append_right _ hv')
    rw [clr_fn (by omega)]
    rcases Nat.lt_succ_iff_lt_or_eq.mp hx with q | q
    · rw [I.z u hu x q, I.z v hv' x q]; simp
    · rw [q, show fn v col * fn u col - fn u col * fn v col = 0 by rw [Int.mul_comm]; omega]; simp
  · refine tri_of _ fun l1 e l2 h => ?_
    rw [List.map_append, List.map_singleton] at h
    rcases List.append_eq_append_iff.mp h with ⟨a', h1, h2⟩ | ⟨c', h1, h2⟩
    · cases a' with
      | nil =>
        rw [List.nil_append] at h2
        cases h2
        exact ⟨col, hp, fun f hf => nomatch hf⟩
      | cons b bs =>
        exfalso
        have := congrArg List.length h2
        simp at this
    · cases c' with
      | nil =>
        rw [List.nil_append] at h2
        cases h2
        exact ⟨col, hp, fun f hf => nomatch hf⟩
      | cons b bs =>
        rw [List.cons_append] at h2
        cases h2
        obtain ⟨c, _, k1, k2, k3⟩ := I.tv l1 e bs h1
        refine ⟨c, k1, fun f hf => ?_⟩
        rcases List.mem_append.mp hf with q | q
        · exact k2 f q
        · rw [List.mem_singleton.mp q]; exact k3 u hu
  · intro l1 e l2 h
    rw [List.map_append, List.map_singleton] at h
    have cz : ∀ c, (∀ r ∈ rest, fn r c = 0) → ∀ r ∈ tl.map (fun v => clr v u col d), fn r c = 0 := fun c hc r hr => by
      obtain ⟨v, hv, rfl⟩ := List.mem_map.mp hr
      have hv' := htl v hv
      have wv := I.wd v (List.mem_append_right _ hv')
      rw [clr_fn (by omega), hc u hu, hc v hv']; simp
    have last : e = fn u ∧ l2 = [] → ∃ c, c < col + 1 ∧ e c ≠ 0 ∧ (∀ f ∈ l2, f c = 0) ∧ ∀ r ∈ tl.map (fun v => clr v u col d), fn r c = 0 := by
      rintro ⟨rfl, rfl⟩
      refine ⟨col, Nat.lt_succ_self _, hp, (fun f hf => nomatch hf), fun r hr => ?_⟩
      obtain ⟨v, hv, rfl⟩ := List.mem_map.mp hr
      have wv := I.wd v (List.mem_append_right _ (htl v hv))
      rw [clr_fn (by omega), show fn v col * fn u col - fn u col * fn v col = 0 by rw [Int.mul_comm]; omega]; simp
    rcases List.append_eq_append_iff.mp h with ⟨a', h1, h2⟩ | ⟨c', h1, h2⟩
    · cases a' with
      | nil =>
        rw [List.nil_append] at h2
        cases h2
        exact last ⟨rfl, rfl⟩
      | cons b bs =>
        exfalso
        have := congrArg List.length h2
        simp at this
    · cases c' with
      | nil =>
        rw [List.nil_append] at h2
        cases h2
        exact last ⟨rfl, rfl⟩
      | cons b bs =>
        rw [List.cons_append] at h2
        cases h2
        obtain ⟨c, k0, k1, k2, k3⟩ := I.tv l1 e bs h1
        refine ⟨c, by omega, k1, fun f hf => ?_, cz c k3⟩
        rcases List.mem_append.mp hf with q | q
        · exact k2 f q
        · rw [List.mem_singleton.mp q]; exact k3 u hu
  · refine Sp.trans (fun f hf => ?_) (I.s1 r hr)
    obtain ⟨q, hq, rfl⟩ := hf
    have bu : Sp (Rs (piv ++ [u] ++ tl.map fun v => clr v u col d)) (fn u) := .base ⟨u, List.mem_append_left _ (List.mem_append_right _ List.mem_cons_self), rfl⟩
    rcases old q hq with h | rfl | h
    · exact .base ⟨q, List.mem_append_left _ (List.mem_append_left _ h), rfl⟩
    · exact bu
    · have bv : Sp (Rs (piv ++ [u] ++ tl.map fun v => clr v u col d)) (fn (clr q u col d)) := .base ⟨_, List.mem_append_right _ (List.mem_map.mpr ⟨q, h, rfl⟩), rfl⟩
      refine .div (fn u col) hp ?_
      have := Sp.lin d (fn q col) bv bu
      have e : (fun x => fn u col * fn q x) = fun x => d * fn (clr q u col d) x + fn q col * fn u x := by
        funext x
        rw [(I.exact hu (htl q h) x).1, Int.mul_comm (fn q col), Int.mul_comm (fn u col)]
        omega
      rw [e]; exact this
  · have bo : ∀ q, q ∈ rest → Sp (Rs T) (fn q) := fun q hq => I.s2 q (List.mem_append_right _ hq)
    rcases List.mem_append.mp hr with h | h
    · rcases List.mem_append.mp h with h | h
      · exact I.s2 r (List.mem_append_left _ h)
      · rw [List.mem_singleton.mp h]; exact bo u hu
    · obtain ⟨v, hv, rfl⟩ := List.mem_map.mp h
      refine .div d hd0 ?_
      have := Sp.lin (fn u col) (- fn v col) (bo v (htl v hv)) (bo u hu)
      have e : (fun x => d * fn (clr v u col d) x) = fun x => fn u col * fn v x + - fn v col * fn u x := by
        funext x
        rw [(I.exact hu (htl v hv) x).1, Int.mul_comm (fn v x), Int.mul_comm (fn u x), Int.neg_mul]
        omega
      rw [e]; exact this
end Ra
namespace Ra
end Ra
namespace Bd
open PySem L2
noncomputable section
section
variable {S : Sx}
end
end
end Bd
namespace Bd
open PySem L2
noncomputable section
section
variable {S : Sx}
end
end
end Bd
namespace Com
open PySem L2 Bd
noncomputable section
theorem forD_range {g : PyData → En → Option En} {body : En → Option Out} {n : Nat} {emb : Nat → PyData} (I : Nat → En → Prop) (h : ∀ k Γ, k < n → I k Γ → ∃ Γ', (g (emb k) Γ).bind body = some (.nx Γ') ∧ I (k + 1) Γ') (Γ : En) (h0 : I 0 Γ) : ∃ Γ', forD g body ((List.range n).map emb) Γ = some (.nx Γ') ∧ I n Γ' := by
  obtain ⟨Γ', h1, k, hk, h2, h3⟩ := forD_inv (g := g) (body := body) emb (fun rest Γ => ∃ k, k ≤ n ∧ rest = (List.range n).drop k ∧ I k Γ) (fun x rest Γ hp => by
    obtain ⟨k, hk, hr, hi⟩ := hp
    have kl : k < n := by
      rcases Nat.lt_or_ge k n with q | q
      · exact q
      · rw [List.drop_of_length_le (by rw [List.length_range]; exact q)] at hr; cases hr
    have hx : x = k := by
      have : ((List.range n).drop k)[0]? = some x := by rw [← hr]; rfl
      rw [List.getElem?_drop, Nat.add_zero, List.getElem?_range kl] at this
      cases this; rfl
    subst hx
    obtain ⟨Γ', a, b⟩ := h x Γ kl hi
    refine ⟨Γ', a, x + 1, kl, ?_, b⟩
    have := congrArg List.tail hr
    rw [List.tail_cons, List.tail_drop] at this
    exact this) (List.range n) Γ ⟨0, Nat.zero_le _, rfl, h0⟩
  have : k = n := by
    have := congrArg List.length h2
    rw [List.length_nil, List.length_drop, List.length_range] at this
    omega
  subst this
  exact ⟨Γ', h1, h3⟩
end
end Com
namespace Tb
open PySem L2 Bd Com
noncomputable section
end
end Tb
namespace Com
open PySem L2 Bd
noncomputable section
def IsShp (r : List Int) : Prop := r.Pairwise (· ≥ ·) ∧ ∀ x ∈ r, 1 ≤ x
def topI (r : List Int) : Int := (maxOpt r).getD 0
def cnt (r : List Int) (k : Int) : Nat := (r.filter fun x => decide (k ≤ x)).length
def cols (r : List Int) : List Int := (List.range (topI r).toNat).map fun (k : Nat) => (cnt r ((k : Int) + 1) : Int)
def pre (r : List Int) (n : Nat) : Int := (r.take n).sum
theorem topI_ub {r : List Int} {x : Int} (h : x ∈ r) : x ≤ topI r := by
  unfold topI
  cases r with
  | nil => cases h
  | cons a l =>
    obtain ⟨m, e, h1, h2, h3⟩ := foldl_bst l a
    have e0 : maxOpt (a :: l) = some m := e
    rw [e0]
    rcases List.mem_cons.mp h with rfl | h
    · exact h2
    · exact h3 x h
theorem topI_mem {r : List Int} (h : r ≠ []) : topI r ∈ r := by
  unfold topI
  cases r with
  | nil => exact absurd rfl h
  | cons a l =>
    obtain ⟨m, e, h1, h2, h3⟩ := foldl_bst l a
    have e0 : maxOpt (a :: l) = some m := e
    rw [e0]
    rcases h1 with rfl | h1
    · exact List.mem_cons_self
    · exact List.mem_cons_of_mem _ h1
theorem getD_out {l : List Int} {i : Nat} (h : l.length ≤ i) : l.getD i 0 = 0 := by simp [List.getD, List.getElem?_eq_none h]
theorem topI_nil : topI [] = 0 := rfl
theorem cnt_cons (x : Int) (xs : List Int) (k : Int) : cnt (x :: xs) k = (if k ≤ x then 1 else 0) + cnt xs k := by
  unfold cnt
  by_cases h : k ≤ x
  · simp [h, Nat.add_comm]
  · simp [h]
theorem cnt_zero {r : List Int} {k : Int} (h : ∀ x ∈ r, x < k) : cnt r k = 0 := by
  unfold cnt
  rw [List.length_eq_zero_iff, List.filter_eq_nil_iff]
  intro x hx
  have := h x hx
  simp; omega
theorem cnt_pos {r : List Int} {k x : Int} (hx : x ∈ r) (h : k ≤ x) : 1 ≤ cnt r k := by
  unfold cnt
  have : x ∈ r.filter fun x => decide (k ≤ x) := List.mem_filter.mpr ⟨hx, by simpa using h⟩
  exact List.length_pos_of_mem this
theorem cnt_anti (r : List Int) {k l : Int} (h : k ≤ l) : cnt r l ≤ cnt r k := by
  induction r with
  | nil => exact Nat.le_refl _
  | cons x xs ih =>
    rw [cnt_cons, cnt_cons]
    by_cases h1 : l ≤ x
    · rw [if_pos h1, if_pos (by omega)]; omega
    · rw [if_neg h1]; omega
theorem galois : ∀ {r : List Int}, r.Pairwise (· ≥ ·) → ∀ (i : Nat) (k : Int), 1 ≤ k → (i < cnt r k ↔ k ≤ r.getD i 0)
  | [], _, i, k, hk => by simp [cnt]; omega
  | x :: xs, hp, i, k, hk => by
    rw [List.pairwise_cons] at hp
    rw [cnt_cons]
    by_cases h : k ≤ x
    · rw [if_pos h]
      cases i with
      | zero => simp [h]; omega
      | succ i =>
        have ih := galois hp.2 i k hk
        simp only [List.getD_cons_succ]
        omega
    · rw [if_neg h]
      have z : cnt xs k = 0 := cnt_zero fun y hy => by have := hp.1 y hy; omega
      rw [z]
      cases i with
      | zero => simp; omega
      | succ i =>
        have ih := galois hp.2 i k hk
        rw [z] at ih
        simp only [List.getD_cons_succ]
        omega
theorem cols_len (r : List Int) : (cols r).length = (topI r).toNat := by simp [cols]
theorem cols_get (r : List Int) (k : Nat) : (cols r).getD k 0 = (cnt r ((k : Int) + 1) : Int) := by
  unfold cols
  by_cases h : k < (topI r).toNat
  · simp [List.getD, h]
  · rw [getD_out (by simp; omega)]
    rw [cnt_zero fun x hx => by have := topI_ub hx; omega]; rfl
theorem cols_shp (r : List Int) : IsShp (cols r) := by
  refine ⟨?_, fun x hx => ?_⟩
  · unfold cols
    rw [List.pairwise_map]
    refine List.Pairwise.imp_of_mem (R := (· < ·)) (fun ha hb h => ?_) List.pairwise_lt_range
    have := cnt_anti r (k := (_ : Int) + 1) (l := (_ : Int) + 1) (Int.add_le_add_right (Int.ofNat_le.mpr (Nat.le_of_lt h)) 1)
    exact Int.ofNat_le.mpr this
  · unfold cols at hx
    obtain ⟨k, hk, rfl⟩ := List.mem_map.mp hx
    have hk := List.mem_range.mp hk
    have hn : r ≠ [] := fun e => by subst e; simp [topI_nil] at hk
    have := cnt_pos (k := (k : Int) + 1) (topI_mem hn) (by omega)
    omega
theorem IsShp.getD_pos {r : List Int} (h : IsShp r) (i : Nat) : i < r.length ↔ 1 ≤ r.getD i 0 := by
  constructor
  · intro hi
    have := h.2 _ (List.getElem_mem hi)
    simpa [List.getD, hi] using this
  · intro hi
    by_cases q : i < r.length
    · exact q
    · rw [getD_out (by omega)] at hi; omega
theorem IsShp.ext {a b : List Int} (ha : IsShp a) (hb : IsShp b) (h : ∀ i, a.getD i 0 = b.getD i 0) : a = b := by
  have hl : a.length = b.length := by
    have h1 := fun i => ha.getD_pos i
    have h2 := fun i => hb.getD_pos i
    rcases Nat.lt_trichotomy a.length b.length with q | q | q
    · have := (h1 a.length).mpr (by rw [h]; exact (h2 _).mp q); omega
    · exact q
    · have := (h2 b.length).mpr (by rw [← h]; exact (h1 _).mp q); omega
  refine List.ext_getElem hl fun i h1 h2 => ?_
  have := h i
  simpa [List.getD, h1, h2] using this
theorem IsShp.getD_nn {r : List Int} (h : IsShp r) (i : Nat) : 0 ≤ r.getD i 0 := by
  by_cases q : i < r.length
  · have := (h.getD_pos i).mp q; omega
  · rw [getD_out (by omega)]; exact Int.le_refl _
theorem cols_cols {r : List Int} (h : IsShp r) : cols (cols r) = r := by
  refine IsShp.ext (cols_shp _) h fun i => ?_
  have nn := h.getD_nn i
  rw [cols_get]
  have key : ∀ k : Nat, k < cnt (cols r) ((i : Int) + 1) ↔ (k : Int) + 1 ≤ r.getD i 0 := fun k => by
    rw [galois (cols_shp r).1 k _ (by omega), cols_get]
    have := galois h.1 i ((k : Int) + 1) (by omega)
    omega
  have k1 := key (cnt (cols r) ((i : Int) + 1))
  by_cases z : cnt (cols r) ((i : Int) + 1) = 0
  · omega
  · have k2 := key (cnt (cols r) ((i : Int) + 1) - 1)
    omega
theorem IsShp.nn {r : List Int} (h : IsShp r) : ∀ x ∈ r, 0 ≤ x := fun x hx => by have := h.2 x hx; omega
theorem pre_zero (r : List Int) : pre r 0 = 0 := by unfold pre; rw [List.take_zero]; rfl
theorem pre_full {r : List Int} {n : Nat} (h : r.length ≤ n) : pre r n = r.sum := by unfold pre; rw [List.take_of_length_le h]
def Dom (a b : List Int) : Prop := ∀ n, pre a n ≤ pre b n
theorem dom_upto {a b : List Int} (m : Nat) (h1 : a.length ≤ m) (h2 : b.length ≤ m) (h : ∀ n ≤ m, pre a n ≤ pre b n) : Dom a b := fun n => by
  by_cases q : n ≤ m
  · exact h n q
  · have := h m (Nat.le_refl _)
    rw [pre_full h1, pre_full h2] at this
    rw [pre_full (by omega), pre_full (by omega)]; exact this
end
end Com
namespace Com
open Bd
noncomputable section
end
end Com
namespace Com
open PySem L2 Bd
noncomputable section
def g_by_columns : En → Option Out :=
  (oSeq (oRet (vLc (iR2 (kC (.int 1)) (dOf (b2 pAdd (dOf (vMaxD (gSl 0) (kC (.int 0)))) (kC (.int 1))))) (gNm 2) bYes (dOf (callD pLen (aCons (dOf (vLc (iLst (gSl 0)) (gNm 1) (bOf (b2 pGe (gSl 1) (gSl 2))) (gFz 1) [1])) aNil))) [2]))
  oNil)
def m_by_columns : List PyData → Option Sl := mirror 3 g_by_columns
theorem iR2_one {f g : En → Option PyData} {Γ : En} {t : Int} (h1 : f Γ = some (.int 1)) (h2 : g Γ = some (.int (t + 1))) (h0 : 0 ≤ t) (h : t ≤ 1000000) : iR2 f g Γ = some ((List.range t.toNat).map fun (k : Nat) => PyData.int ((k : Int) + 1)) := by
  have e62 : (big (2 ^ 62) : Int) = 4611686018427387904 := by rw [big_eq]; decide
  unfold iR2
  rw [h1, h2]
  dsimp only
  rw [if_pos (by rw [e62]; omega)]
  unfold rngD
  rw [show (t + 1 - 1).toNat = t.toNat by omega]
  congr 1
  apply List.map_congr_left
  intro k _
  rw [Int.add_comm]
theorem vMaxD_nums {f h : En → Option PyData} {Γ : En} {ns : List Int} (hf : f Γ = some (.list (nums ns))) (hh : h Γ = some (.int 0)) : vMaxD f h Γ = some (.fz (.int (topI ns))) := by
  unfold vMaxD
  rw [hf, hh]
  dsimp only
  rw [toInts_map, Option.map_some]
  unfold topI
  cases maxOpt ns <;> rfl
theorem topI_nn {r : List Int} (h : ∀ x ∈ r, 0 ≤ x) : 0 ≤ topI r := by
  cases r with
  | nil => exact Int.le_refl _
  | cons a l => exact h _ (topI_mem (by simp))
theorem columns_spec (r : List Int) (hr : r.length < 1000) (h0 : 0 ≤ topI r) (h1 : topI r ≤ 1000) : m_by_columns [.list (nums r)] = some (.ow (nums (cols r))) := by
  have c1 : r.length < cap := by rw [cap_eq]; omega
  have c2 : (topI r).toNat < cap := by rw [cap_eq]; omega
  have mx : vMaxD (gSl 0) (kC (.int 0)) [some (.fz (.list (nums r))), none, none] = some (.fz (.int (topI r))) := vMaxD_nums rfl rfl
  have it : iR2 (kC (.int 1)) (dOf (b2 pAdd (dOf (vMaxD (gSl 0) (kC (.int 0)))) (kC (.int 1)))) [some (.fz (.list (nums r))), none, none] = some ((List.range (topI r).toNat).map fun (k : Nat) => PyData.int ((k : Int) + 1)) := iR2_one rfl (by simp only [List.map_cons, List.map_nil, List.length_cons, List.length_nil, List.replicate, List.cons_append, List.nil_append, List.getElem?_cons_zero, List.getElem?_cons_succ, List.set_cons_succ, List.set_cons_zero, Nat.reduceSub, Nat.zero_add, Nat.reduceAdd, Option.map_some, Option.map_none, Option.bind_some, if_true, List.length_map, List.length_range, e_setE0, e_setES, e_dOf, e_fzOf, e_fz, e_ow, e_gSl0, e_gSlS, e_gFz0, e_gFzS, e_kC, e_aNil, e_aCons, e_dLst, e_dTup, e_b2, e_pI, e_pAddI, e_pAddL, e_callD, e_bOf, e_bNot, e_bTru, e_truB, e_bAnd, e_bOr, e_vAnd, e_bYes, e_pLenL, e_pLenT, e_pAbs, e_pListOf, e_pIxL, e_pIxT, e_vIsi, e_iLst, e_iEnm, e_gNm, e_oNil, e_oSeq, e_oSet, e_oRet, e_oIf, e_oFor, e_oFrz, e_vLc, e_frz0w, e_frz0f, e_frzS, e_wipeN, e_wipeC, e_oRetV, e_oApp, e_oExt, e_iOwn, e_iOwnE, e_gTpl2, e_pEqI, e_pNeI, e_pNeB, e_pEqB, e_vChain, e_vNeg, e_vRev, e_oInt, e_dSl, e_vNot, e_vOr, e_vLc2, e_isiL, e_isiI, e_isiB, e_isBB, e_oPar, e_oAug, e_oRevS, e_vIf, e_gGh, e_vRepL, e_pInt1B, e_oAugIx, e_mUnp, e_mPar2, e_mPar3, e_xTup, e_xLst, e_allN, e_allC, e_mDrp2, e_gTpl3, e_oSwap, e_vCallT, e_xCallO, e_mIns, e_mSetIx, e_vLend, e_flatO, e_flatFB, e_flatFI, e_isB, e_isNotBB, e_oUnp, e_iZp, e_oSetIxM, e_oIns, e_oWhile, e_xPV, e_xP, e_xPB, e_xPI, e_xV, e_xFz, e_x2, e_x2N, e_xB, e_xGix, e_mNil, e_mSeq, e_mIf, e_mRet, e_mSet, e_mGset, e_mGaug, e_mLft, e_mFor, e_mApp, e_gaNil, e_gaV, e_gaG, e_xCallG, Nat.reduceLT, Nat.reduceLeDiff, mx]) h0 (by omega)
  have lc : lcD (gNm 2) bYes (dOf (callD pLen (aCons (dOf (vLc (iLst (gSl 0)) (gNm 1) (bOf (b2 pGe (gSl 1) (gSl 2))) (gFz 1) [1])) aNil))) [some (.fz (.list (nums r))), none, none] ((List.range (topI r).toNat).map fun (k : Nat) => PyData.int ((k : Int) + 1)) = some (nums (cols r)) := by
    unfold cols nums
    rw [List.map_map]
    refine lcD_map _ _ _ fun k hk => ?_
    have lc2 : lcD (gNm 1) (bOf (b2 pGe (gSl 1) (gSl 2))) (gFz 1) [some (.fz (.list (nums r))), none, some (.fz (.int ((k : Int) + 1)))] (nums r) = some ((r.filter fun x => decide ((k : Int) + 1 ≤ x)).map PyData.int) := by
      refine lcD_filter PyData.int _ _ r (fun x _ => ?_) fun x _ _ => ?_
      · simp only [List.map_cons, List.map_nil, List.length_cons, List.length_nil, List.replicate, List.cons_append, List.nil_append, List.getElem?_cons_zero, List.getElem?_cons_succ, List.set_cons_succ, List.set_cons_zero, Nat.reduceSub, Nat.zero_add, Nat.reduceAdd, Option.map_some, Option.map_none, Option.bind_some, if_true, List.length_map, List.length_range, e_setE0, e_setES, e_dOf, e_fzOf, e_fz, e_ow, e_gSl0, e_gSlS, e_gFz0, e_gFzS, e_kC, e_aNil, e_aCons, e_dLst, e_dTup, e_b2, e_pI, e_pAddI, e_pAddL, e_callD, e_bOf, e_bNot, e_bTru, e_truB, e_bAnd, e_bOr, e_vAnd, e_bYes, e_pLenL, e_pLenT, e_pAbs, e_pListOf, e_pIxL, e_pIxT, e_vIsi, e_iLst, e_iEnm, e_gNm, e_oNil, e_oSeq, e_oSet, e_oRet, e_oIf, e_oFor, e_oFrz, e_vLc, e_frz0w, e_frz0f, e_frzS, e_wipeN, e_wipeC, e_oRetV, e_oApp, e_oExt, e_iOwn, e_iOwnE, e_gTpl2, e_pEqI, e_pNeI, e_pNeB, e_pEqB, e_vChain, e_vNeg, e_vRev, e_oInt, e_dSl, e_vNot, e_vOr, e_vLc2, e_isiL, e_isiI, e_isiB, e_isBB, e_oPar, e_oAug, e_oRevS, e_vIf, e_gGh, e_vRepL, e_pInt1B, e_oAugIx, e_mUnp, e_mPar2, e_mPar3, e_xTup, e_xLst, e_allN, e_allC, e_mDrp2, e_gTpl3, e_oSwap, e_vCallT, e_xCallO, e_mIns, e_mSetIx, e_vLend, e_flatO, e_flatFB, e_flatFI, e_isB, e_isNotBB, e_oUnp, e_iZp, e_oSetIxM, e_oIns, e_oWhile, e_xPV, e_xP, e_xPB, e_xPI, e_xV, e_xFz, e_x2, e_x2N, e_xB, e_xGix, e_mNil, e_mSeq, e_mIf, e_mRet, e_mSet, e_mGset, e_mGaug, e_mLft, e_mFor, e_mApp, e_gaNil, e_gaV, e_gaG, e_xCallG, Nat.reduceLT, Nat.reduceLeDiff]
      · simp only [List.map_cons, List.map_nil, List.length_cons, List.length_nil, List.replicate, List.cons_append, List.nil_append, List.getElem?_cons_zero, List.getElem?_cons_succ, List.set_cons_succ, List.set_cons_zero, Nat.reduceSub, Nat.zero_add, Nat.reduceAdd, Option.map_some, Option.map_none, Option.bind_some, if_true, List.length_map, List.length_range, e_setE0, e_setES, e_dOf, e_fzOf, e_fz, e_ow, e_gSl0, e_gSlS, e_gFz0, e_gFzS, e_kC, e_aNil, e_aCons, e_dLst, e_dTup, e_b2, e_pI, e_pAddI, e_pAddL, e_callD, e_bOf, e_bNot, e_bTru, e_truB, e_bAnd, e_bOr, e_vAnd, e_bYes, e_pLenL, e_pLenT, e_pAbs, e_pListOf, e_pIxL, e_pIxT, e_vIsi, e_iLst, e_iEnm, e_gNm, e_oNil, e_oSeq, e_oSet, e_oRet, e_oIf, e_oFor, e_oFrz, e_vLc, e_frz0w, e_frz0f, e_frzS, e_wipeN, e_wipeC, e_oRetV, e_oApp, e_oExt, e_iOwn, e_iOwnE, e_gTpl2, e_pEqI, e_pNeI, e_pNeB, e_pEqB, e_vChain, e_vNeg, e_vRev, e_oInt, e_dSl, e_vNot, e_vOr, e_vLc2, e_isiL, e_isiI, e_isiB, e_isBB, e_oPar, e_oAug, e_oRevS, e_vIf, e_gGh, e_vRepL, e_pInt1B, e_oAugIx, e_mUnp, e_mPar2, e_mPar3, e_xTup, e_xLst, e_allN, e_allC, e_mDrp2, e_gTpl3, e_oSwap, e_vCallT, e_xCallO, e_mIns, e_mSetIx, e_vLend, e_flatO, e_flatFB, e_flatFI, e_isB, e_isNotBB, e_oUnp, e_iZp, e_oSetIxM, e_oIns, e_oWhile, e_xPV, e_xP, e_xPB, e_xPI, e_xV, e_xFz, e_x2, e_x2N, e_xB, e_xGix, e_mNil, e_mSeq, e_mIf, e_mRet, e_mSet, e_mGset, e_mGaug, e_mLft, e_mFor, e_mApp, e_gaNil, e_gaV, e_gaG, e_xCallG, Nat.reduceLT, Nat.reduceLeDiff]
    unfold nums at lc2
    simp only [List.map_cons, List.map_nil, List.length_cons, List.length_nil, List.replicate, List.cons_append, List.nil_append, List.getElem?_cons_zero, List.getElem?_cons_succ, List.set_cons_succ, List.set_cons_zero, Nat.reduceSub, Nat.zero_add, Nat.reduceAdd, Option.map_some, Option.map_none, Option.bind_some, if_true, List.length_map, List.length_range, e_setE0, e_setES, e_dOf, e_fzOf, e_fz, e_ow, e_gSl0, e_gSlS, e_gFz0, e_gFzS, e_kC, e_aNil, e_aCons, e_dLst, e_dTup, e_b2, e_pI, e_pAddI, e_pAddL, e_callD, e_bOf, e_bNot, e_bTru, e_truB, e_bAnd, e_bOr, e_vAnd, e_bYes, e_pLenL, e_pLenT, e_pAbs, e_pListOf, e_pIxL, e_pIxT, e_vIsi, e_iLst, e_iEnm, e_gNm, e_oNil, e_oSeq, e_oSet, e_oRet, e_oIf, e_oFor, e_oFrz, e_vLc, e_frz0w, e_frz0f, e_frzS, e_wipeN, e_wipeC, e_oRetV, e_oApp, e_oExt, e_iOwn, e_iOwnE, e_gTpl2, e_pEqI, e_pNeI, e_pNeB, e_pEqB, e_vChain, e_vNeg, e_vRev, e_oInt, e_dSl, e_vNot, e_vOr, e_vLc2, e_isiL, e_isiI, e_isiB, e_isBB, e_oPar, e_oAug, e_oRevS, e_vIf, e_gGh, e_vRepL, e_pInt1B, e_oAugIx, e_mUnp, e_mPar2, e_mPar3, e_xTup, e_xLst, e_allN, e_allC, e_mDrp2, e_gTpl3, e_oSwap, e_vCallT, e_xCallO, e_mIns, e_mSetIx, e_vLend, e_flatO, e_flatFB, e_flatFI, e_isB, e_isNotBB, e_oUnp, e_iZp, e_oSetIxM, e_oIns, e_oWhile, e_xPV, e_xP, e_xPB, e_xPI, e_xV, e_xFz, e_x2, e_x2N, e_xB, e_xGix, e_mNil, e_mSeq, e_mIf, e_mRet, e_mSet, e_mGset, e_mGaug, e_mLft, e_mFor, e_mApp, e_gaNil, e_gaV, e_gaG, e_xCallG, Nat.reduceLT, Nat.reduceLeDiff, c1, lc2, Function.comp]
    rfl
  unfold m_by_columns mirror g_by_columns startE
  simp only [List.map_cons, List.map_nil, List.length_cons, List.length_nil, List.replicate, List.cons_append, List.nil_append, List.getElem?_cons_zero, List.getElem?_cons_succ, List.set_cons_succ, List.set_cons_zero, Nat.reduceSub, Nat.zero_add, Nat.reduceAdd, Option.map_some, Option.map_none, Option.bind_some, if_true, List.length_map, List.length_range, e_setE0, e_setES, e_dOf, e_fzOf, e_fz, e_ow, e_gSl0, e_gSlS, e_gFz0, e_gFzS, e_kC, e_aNil, e_aCons, e_dLst, e_dTup, e_b2, e_pI, e_pAddI, e_pAddL, e_callD, e_bOf, e_bNot, e_bTru, e_truB, e_bAnd, e_bOr, e_vAnd, e_bYes, e_pLenL, e_pLenT, e_pAbs, e_pListOf, e_pIxL, e_pIxT, e_vIsi, e_iLst, e_iEnm, e_gNm, e_oNil, e_oSeq, e_oSet, e_oRet, e_oIf, e_oFor, e_oFrz, e_vLc, e_frz0w, e_frz0f, e_frzS, e_wipeN, e_wipeC, e_oRetV, e_oApp, e_oExt, e_iOwn, e_iOwnE, e_gTpl2, e_pEqI, e_pNeI, e_pNeB, e_pEqB, e_vChain, e_vNeg, e_vRev, e_oInt, e_dSl, e_vNot, e_vOr, e_vLc2, e_isiL, e_isiI, e_isiB, e_isBB, e_oPar, e_oAug, e_oRevS, e_vIf, e_gGh, e_vRepL, e_pInt1B, e_oAugIx, e_mUnp, e_mPar2, e_mPar3, e_xTup, e_xLst, e_allN, e_allC, e_mDrp2, e_gTpl3, e_oSwap, e_vCallT, e_xCallO, e_mIns, e_mSetIx, e_vLend, e_flatO, e_flatFB, e_flatFI, e_isB, e_isNotBB, e_oUnp, e_iZp, e_oSetIxM, e_oIns, e_oWhile, e_xPV, e_xP, e_xPB, e_xPI, e_xV, e_xFz, e_x2, e_x2N, e_xB, e_xGix, e_mNil, e_mSeq, e_mIf, e_mRet, e_mSet, e_mGset, e_mGaug, e_mLft, e_mFor, e_mApp, e_gaNil, e_gaV, e_gaG, e_xCallG, Nat.reduceLT, Nat.reduceLeDiff, it, c2, lc]
end
end Com
namespace Com
open PySem L2 Bd
noncomputable section
def g_places_of_both : En → Option Out :=
  (oSeq (oRet (vListRange (dOf (callD pMax2 (aCons (dOf (callD pLen (aCons (gSl 0) aNil))) (aCons (dOf (callD pLen (aCons (gSl 1) aNil))) aNil))))))
  oNil)
def m_places_of_both : List PyData → Option Sl := mirror 2 g_places_of_both
def g_is_beneath : En → Option Out :=
  (oSeq (oRet (callD pAll (aCons (dOf (vLc (iLst (dOf (callD m_places_of_both (aCons (gFz 0) (aCons (gFz 1) aNil))))) (gNm 2) bYes (dOf (b2 pLe (dOf (callD pSum (aCons (dOf (dSl (gSl 0) (fun _ => some none) (oInt (dOf (b2 pAdd (gSl 2) (kC (.int 1))))))) aNil))) (dOf (callD pSum (aCons (dOf (dSl (gSl 1) (fun _ => some none) (oInt (dOf (b2 pAdd (gSl 2) (kC (.int 1))))))) aNil))))) [2])) aNil)))
  oNil)
def m_is_beneath : List PyData → Option Sl := mirror 3 g_is_beneath
def g_law_beneath_b1 : En → Option Out :=
  (oSeq (oIf (bOf (b2 pGt (dOf (callD pSum (aCons (dOf (dSl (gSl 0) (fun _ => some none) (oInt (gSl 2)))) aNil))) (dOf (callD pSum (aCons (dOf (dSl (gSl 1) (fun _ => some none) (oInt (gSl 2)))) aNil)))))
  (oSeq (oRet (fzOf (kC (.bool false))))
  oNil)
  oNil)
  oNil)
def g_law_beneath : En → Option Out :=
  (oSeq (oFor (iR1 (dOf (b2 pAdd (dOf (b2 pAdd (dOf (callD pLen (aCons (gSl 0) aNil))) (dOf (callD pLen (aCons (gSl 1) aNil))))) (kC (.int 1))))) (gNm 2)
  g_law_beneath_b1)
  (oSeq (oRet (fzOf (kC (.bool true))))
  oNil))
def m_law_beneath : List PyData → Option Sl := mirror 3 g_law_beneath
def g_law_so : En → Option Out :=
  (oSeq (oRet (vAnd (vIsi "bool" (gSl 0)) (b2 pEq (gSl 0) (gSl 1))))
  oNil)
def m_law_so : List PyData → Option Sl := mirror 2 g_law_so
def cutI (s : List Int) (lo hi : Option Int) : List Int := (s.drop (HT.sIx s.length 0 lo)).take (HT.sIx s.length s.length hi - HT.sIx s.length 0 lo)
theorem cutD_nums (s : List Int) (lo hi : Option Int) : cutD (nums s) lo hi = nums (cutI s lo hi) := by
  unfold cutD cutI nums
  rw [List.length_map, List.map_take, List.map_drop]
theorem cutI_take (s : List Int) (n : Nat) : cutI s none (some (n : Int)) = s.take n := by
  unfold cutI
  rw [HT.sIx_none, HT.sIx_nat, List.drop_zero, Nat.sub_zero]
  by_cases h : n ≤ s.length
  · rw [Nat.min_eq_left h]
  · rw [Nat.min_eq_right (by omega), List.take_length, List.take_of_length_le (by omega)]
theorem cutI_take1 (s : List Int) (n : Nat) : cutI s none (some ((n : Int) + 1)) = s.take (n + 1) := cutI_take s (n + 1)
theorem e_pMax2 {i j : Int} : pMax2 [.int i, .int j] = some (.fz (.int (if j > i then j else i))) := id rfl
theorem places_spec (a b : List PyData) (ha : a.length < 1000) (hb : b.length < 1000) : m_places_of_both [.list a, .list b] = some (.ow (nums (ups (max a.length b.length)))) := by
  unfold m_places_of_both mirror g_places_of_both startE
  simp only [List.map_cons, List.map_nil, List.length_cons, List.length_nil, List.replicate, List.cons_append, List.nil_append, List.getElem?_cons_zero, List.getElem?_cons_succ, List.set_cons_succ, List.set_cons_zero, Nat.reduceSub, Nat.zero_add, Nat.reduceAdd, Option.map_some, Option.map_none, Option.bind_some, if_true, List.length_map, List.length_range, e_setE0, e_setES, e_dOf, e_fzOf, e_fz, e_ow, e_gSl0, e_gSlS, e_gFz0, e_gFzS, e_kC, e_aNil, e_aCons, e_dLst, e_dTup, e_b2, e_pI, e_pAddI, e_pAddL, e_callD, e_bOf, e_bNot, e_bTru, e_truB, e_bAnd, e_bOr, e_vAnd, e_bYes, e_pLenL, e_pLenT, e_pAbs, e_pListOf, e_pIxL, e_pIxT, e_vIsi, e_iLst, e_iEnm, e_gNm, e_oNil, e_oSeq, e_oSet, e_oRet, e_oIf, e_oFor, e_oFrz, e_vLc, e_frz0w, e_frz0f, e_frzS, e_wipeN, e_wipeC, e_oRetV, e_oApp, e_oExt, e_iOwn, e_iOwnE, e_gTpl2, e_pEqI, e_pNeI, e_pNeB, e_pEqB, e_vChain, e_vNeg, e_vRev, e_oInt, e_dSl, e_vNot, e_vOr, e_vLc2, e_isiL, e_isiI, e_isiB, e_isBB, e_oPar, e_oAug, e_oRevS, e_vIf, e_gGh, e_vRepL, e_pInt1B, e_oAugIx, e_mUnp, e_mPar2, e_mPar3, e_xTup, e_xLst, e_allN, e_allC, e_mDrp2, e_gTpl3, e_oSwap, e_vCallT, e_xCallO, e_mIns, e_mSetIx, e_vLend, e_flatO, e_flatFB, e_flatFI, e_isB, e_isNotBB, e_oUnp, e_iZp, e_oSetIxM, e_oIns, e_oWhile, e_xPV, e_xP, e_xPB, e_xPI, e_xV, e_xFz, e_x2, e_x2N, e_xB, e_xGix, e_mNil, e_mSeq, e_mIf, e_mRet, e_mSet, e_mGset, e_mGaug, e_mLft, e_mFor, e_mApp, e_gaNil, e_gaV, e_gaG, e_xCallG, Nat.reduceLT, Nat.reduceLeDiff]
  rw [vListRange_nat (n := max a.length b.length) (by simp only [List.map_cons, List.map_nil, List.length_cons, List.length_nil, List.replicate, List.cons_append, List.nil_append, List.getElem?_cons_zero, List.getElem?_cons_succ, List.set_cons_succ, List.set_cons_zero, Nat.reduceSub, Nat.zero_add, Nat.reduceAdd, Option.map_some, Option.map_none, Option.bind_some, if_true, List.length_map, List.length_range, e_setE0, e_setES, e_dOf, e_fzOf, e_fz, e_ow, e_gSl0, e_gSlS, e_gFz0, e_gFzS, e_kC, e_aNil, e_aCons, e_dLst, e_dTup, e_b2, e_pI, e_pAddI, e_pAddL, e_callD, e_bOf, e_bNot, e_bTru, e_truB, e_bAnd, e_bOr, e_vAnd, e_bYes, e_pLenL, e_pLenT, e_pAbs, e_pListOf, e_pIxL, e_pIxT, e_vIsi, e_iLst, e_iEnm, e_gNm, e_oNil, e_oSeq, e_oSet, e_oRet, e_oIf, e_oFor, e_oFrz, e_vLc, e_frz0w, e_frz0f, e_frzS, e_wipeN, e_wipeC, e_oRetV, e_oApp, e_oExt, e_iOwn, e_iOwnE, e_gTpl2, e_pEqI, e_pNeI, e_pNeB, e_pEqB, e_vChain, e_vNeg, e_vRev, e_oInt, e_dSl, e_vNot, e_vOr, e_vLc2, e_isiL, e_isiI, e_isiB, e_isBB, e_oPar, e_oAug, e_oRevS, e_vIf, e_gGh, e_vRepL, e_pInt1B, e_oAugIx, e_mUnp, e_mPar2, e_mPar3, e_xTup, e_xLst, e_allN, e_allC, e_mDrp2, e_gTpl3, e_oSwap, e_vCallT, e_xCallO, e_mIns, e_mSetIx, e_vLend, e_flatO, e_flatFB, e_flatFI, e_isB, e_isNotBB, e_oUnp, e_iZp, e_oSetIxM, e_oIns, e_oWhile, e_xPV, e_xP, e_xPB, e_xPI, e_xV, e_xFz, e_x2, e_x2N, e_xB, e_xGix, e_mNil, e_mSeq, e_mIf, e_mRet, e_mSet, e_mGset, e_mGaug, e_mLft, e_mFor, e_mApp, e_gaNil, e_gaV, e_gaG, e_xCallG, Nat.reduceLT, Nat.reduceLeDiff, e_pMax2]; congr 3; split <;> omega) (by omega)]
  rfl
def benB (a b : List Int) : Bool := ((List.range (max a.length b.length)).map fun (p : Nat) => decide (pre a (p + 1) ≤ pre b (p + 1))).all id
theorem benB_iff (a b : List Int) : benB a b = true ↔ Dom a b := by
  unfold benB
  rw [List.all_map, List.all_eq_true]
  constructor
  · intro h
    refine dom_upto (max a.length b.length) (by omega) (by omega) fun n hn => ?_
    cases n with
    | zero => rw [pre_zero, pre_zero]; exact Int.le_refl _
    | succ n =>
      have := h n (List.mem_range.mpr (by omega))
      simpa using this
  · intro h p _
    have := h (p + 1)
    simpa using this
theorem beneath_spec (a b : List Int) (ha : a.length < 1000) (hb : b.length < 1000) : m_is_beneath [.list (nums a), .list (nums b)] = some (.fz (.bool (benB a b))) := by
  have pl := places_spec (nums a) (nums b) (by simpa using ha) (by simpa using hb)
  rw [List.length_map, List.length_map] at pl
  have c1 : max a.length b.length < cap := by rw [cap_eq]; omega
  have lc : lcD (gNm 2) bYes (dOf (b2 pLe (dOf (callD pSum (aCons (dOf (dSl (gSl 0) (fun _ => some none) (oInt (dOf (b2 pAdd (gSl 2) (kC (.int 1))))))) aNil))) (dOf (callD pSum (aCons (dOf (dSl (gSl 1) (fun _ => some none) (oInt (dOf (b2 pAdd (gSl 2) (kC (.int 1))))))) aNil))))) [some (.fz (.list (nums a))), some (.fz (.list (nums b))), none] (nums (ups (max a.length b.length))) = some (((List.range (max a.length b.length)).map fun (p : Nat) => decide (pre a (p + 1) ≤ pre b (p + 1))).map PyData.bool) := by
    rw [nums_ups, List.map_map]
    refine lcD_map _ _ _ fun p _ => ?_
    simp only [List.map_cons, List.map_nil, List.length_cons, List.length_nil, List.replicate, List.cons_append, List.nil_append, List.getElem?_cons_zero, List.getElem?_cons_succ, List.set_cons_succ, List.set_cons_zero, Nat.reduceSub, Nat.zero_add, Nat.reduceAdd, Option.map_some, Option.map_none, Option.bind_some, if_true, List.length_map, List.length_range, e_setE0, e_setES, e_dOf, e_fzOf, e_fz, e_ow, e_gSl0, e_gSlS, e_gFz0, e_gFzS, e_kC, e_aNil, e_aCons, e_dLst, e_dTup, e_b2, e_pI, e_pAddI, e_pAddL, e_callD, e_bOf, e_bNot, e_bTru, e_truB, e_bAnd, e_bOr, e_vAnd, e_bYes, e_pLenL, e_pLenT, e_pAbs, e_pListOf, e_pIxL, e_pIxT, e_vIsi, e_iLst, e_iEnm, e_gNm, e_oNil, e_oSeq, e_oSet, e_oRet, e_oIf, e_oFor, e_oFrz, e_vLc, e_frz0w, e_frz0f, e_frzS, e_wipeN, e_wipeC, e_oRetV, e_oApp, e_oExt, e_iOwn, e_iOwnE, e_gTpl2, e_pEqI, e_pNeI, e_pNeB, e_pEqB, e_vChain, e_vNeg, e_vRev, e_oInt, e_dSl, e_vNot, e_vOr, e_vLc2, e_isiL, e_isiI, e_isiB, e_isBB, e_oPar, e_oAug, e_oRevS, e_vIf, e_gGh, e_vRepL, e_pInt1B, e_oAugIx, e_mUnp, e_mPar2, e_mPar3, e_xTup, e_xLst, e_allN, e_allC, e_mDrp2, e_gTpl3, e_oSwap, e_vCallT, e_xCallO, e_mIns, e_mSetIx, e_vLend, e_flatO, e_flatFB, e_flatFI, e_isB, e_isNotBB, e_oUnp, e_iZp, e_oSetIxM, e_oIns, e_oWhile, e_xPV, e_xP, e_xPB, e_xPI, e_xV, e_xFz, e_x2, e_x2N, e_xB, e_xGix, e_mNil, e_mSeq, e_mIf, e_mRet, e_mSet, e_mGset, e_mGaug, e_mLft, e_mFor, e_mApp, e_gaNil, e_gaV, e_gaG, e_xCallG, Nat.reduceLT, Nat.reduceLeDiff, cutD_nums, cutI_take1, e_pSum, Function.comp, pre]
    rfl
  have pa := pAll_bls ((List.range (max a.length b.length)).map fun (p : Nat) => decide (pre a (p + 1) ≤ pre b (p + 1)))
  unfold m_is_beneath mirror g_is_beneath startE
  generalize m_places_of_both = mp at pl
  have ul : (nums (ups (max a.length b.length))).length = max a.length b.length := by rw [List.length_map, ups_len]
  generalize nums (ups (max a.length b.length)) = us at pl lc ul
  simp only [List.map_cons, List.map_nil, List.length_cons, List.length_nil, List.replicate, List.cons_append, List.nil_append, List.getElem?_cons_zero, List.getElem?_cons_succ, List.set_cons_succ, List.set_cons_zero, Nat.reduceSub, Nat.zero_add, Nat.reduceAdd, Option.map_some, Option.map_none, Option.bind_some, if_true, List.length_map, List.length_range, e_setE0, e_setES, e_dOf, e_fzOf, e_fz, e_ow, e_gSl0, e_gSlS, e_gFz0, e_gFzS, e_kC, e_aNil, e_aCons, e_dLst, e_dTup, e_b2, e_pI, e_pAddI, e_pAddL, e_callD, e_bOf, e_bNot, e_bTru, e_truB, e_bAnd, e_bOr, e_vAnd, e_bYes, e_pLenL, e_pLenT, e_pAbs, e_pListOf, e_pIxL, e_pIxT, e_vIsi, e_iLst, e_iEnm, e_gNm, e_oNil, e_oSeq, e_oSet, e_oRet, e_oIf, e_oFor, e_oFrz, e_vLc, e_frz0w, e_frz0f, e_frzS, e_wipeN, e_wipeC, e_oRetV, e_oApp, e_oExt, e_iOwn, e_iOwnE, e_gTpl2, e_pEqI, e_pNeI, e_pNeB, e_pEqB, e_vChain, e_vNeg, e_vRev, e_oInt, e_dSl, e_vNot, e_vOr, e_vLc2, e_isiL, e_isiI, e_isiB, e_isBB, e_oPar, e_oAug, e_oRevS, e_vIf, e_gGh, e_vRepL, e_pInt1B, e_oAugIx, e_mUnp, e_mPar2, e_mPar3, e_xTup, e_xLst, e_allN, e_allC, e_mDrp2, e_gTpl3, e_oSwap, e_vCallT, e_xCallO, e_mIns, e_mSetIx, e_vLend, e_flatO, e_flatFB, e_flatFI, e_isB, e_isNotBB, e_oUnp, e_iZp, e_oSetIxM, e_oIns, e_oWhile, e_xPV, e_xP, e_xPB, e_xPI, e_xV, e_xFz, e_x2, e_x2N, e_xB, e_xGix, e_mNil, e_mSeq, e_mIf, e_mRet, e_mSet, e_mGset, e_mGaug, e_mLft, e_mFor, e_mApp, e_gaNil, e_gaV, e_gaG, e_xCallG, Nat.reduceLT, Nat.reduceLeDiff, pl, ul, c1, lc, pa]
  rfl
def lbB (a b : List Int) : Bool := (List.range (a.length + b.length + 1)).all fun (n : Nat) => decide (pre a n ≤ pre b n)
theorem lbB_iff (a b : List Int) : lbB a b = true ↔ Dom a b := by
  unfold lbB
  rw [List.all_eq_true]
  constructor
  · intro h
    refine dom_upto (a.length + b.length) (by omega) (by omega) fun n hn => ?_
    have := h n (List.mem_range.mpr (by omega))
    simpa using this
  · intro h p _
    have := h p
    simpa using this
theorem ben_lb (a b : List Int) : benB a b = lbB a b := by
  rw [Bool.eq_iff_iff, benB_iff, lbB_iff]
theorem lawbeneath_spec (a b : List Int) (ha : a.length < 1000) (hb : b.length < 1000) : m_law_beneath [.list (nums a), .list (nums b)] = some (.fz (.bool (lbB a b))) := by
  have it : iR1 (dOf (b2 pAdd (dOf (b2 pAdd (dOf (callD pLen (aCons (gSl 0) aNil))) (dOf (callD pLen (aCons (gSl 1) aNil))))) (kC (.int 1)))) [some (.fz (.list (nums a))), some (.fz (.list (nums b))), none] = some ((List.range (a.length + b.length + 1)).map fun (k : Nat) => PyData.int (k : Int)) := iR1_nat (by simp only [List.map_cons, List.map_nil, List.length_cons, List.length_nil, List.replicate, List.cons_append, List.nil_append, List.getElem?_cons_zero, List.getElem?_cons_succ, List.set_cons_succ, List.set_cons_zero, Nat.reduceSub, Nat.zero_add, Nat.reduceAdd, Option.map_some, Option.map_none, Option.bind_some, if_true, List.length_map, List.length_range, e_setE0, e_setES, e_dOf, e_fzOf, e_fz, e_ow, e_gSl0, e_gSlS, e_gFz0, e_gFzS, e_kC, e_aNil, e_aCons, e_dLst, e_dTup, e_b2, e_pI, e_pAddI, e_pAddL, e_callD, e_bOf, e_bNot, e_bTru, e_truB, e_bAnd, e_bOr, e_vAnd, e_bYes, e_pLenL, e_pLenT, e_pAbs, e_pListOf, e_pIxL, e_pIxT, e_vIsi, e_iLst, e_iEnm, e_gNm, e_oNil, e_oSeq, e_oSet, e_oRet, e_oIf, e_oFor, e_oFrz, e_vLc, e_frz0w, e_frz0f, e_frzS, e_wipeN, e_wipeC, e_oRetV, e_oApp, e_oExt, e_iOwn, e_iOwnE, e_gTpl2, e_pEqI, e_pNeI, e_pNeB, e_pEqB, e_vChain, e_vNeg, e_vRev, e_oInt, e_dSl, e_vNot, e_vOr, e_vLc2, e_isiL, e_isiI, e_isiB, e_isBB, e_oPar, e_oAug, e_oRevS, e_vIf, e_gGh, e_vRepL, e_pInt1B, e_oAugIx, e_mUnp, e_mPar2, e_mPar3, e_xTup, e_xLst, e_allN, e_allC, e_mDrp2, e_gTpl3, e_oSwap, e_vCallT, e_xCallO, e_mIns, e_mSetIx, e_vLend, e_flatO, e_flatFB, e_flatFI, e_isB, e_isNotBB, e_oUnp, e_iZp, e_oSetIxM, e_oIns, e_oWhile, e_xPV, e_xP, e_xPB, e_xPI, e_xV, e_xFz, e_x2, e_x2N, e_xB, e_xGix, e_mNil, e_mSeq, e_mIf, e_mRet, e_mSet, e_mGset, e_mGaug, e_mLft, e_mFor, e_mApp, e_gaNil, e_gaV, e_gaG, e_xCallG, Nat.reduceLT, Nat.reduceLeDiff]; rfl) (by omega)
  have fa := forD_all (gt := gNm 2) (body := g_law_beneath_b1) (fun (k : Nat) => PyData.int (k : Int)) (fun (y : Option Sl) => [some (.fz (.list (nums a))), some (.fz (.list (nums b))), y]) (fun (n : Nat) => decide (pre a n ≤ pre b n)) (.fz (.bool false)) (List.range (a.length + b.length + 1)) none (fun y n _ => by
    unfold g_law_beneath_b1
    constructor
    · intro h
      have h' : ¬ pre b n < pre a n := by simpa using h
      have h2 : decide ((b.take n).sum < (a.take n).sum) = false := decide_eq_false h'
      refine ⟨some (.fz (.int (n : Int))), ?_⟩
      simp only [List.map_cons, List.map_nil, List.length_cons, List.length_nil, List.replicate, List.cons_append, List.nil_append, List.getElem?_cons_zero, List.getElem?_cons_succ, List.set_cons_succ, List.set_cons_zero, Nat.reduceSub, Nat.zero_add, Nat.reduceAdd, Option.map_some, Option.map_none, Option.bind_some, if_true, List.length_map, List.length_range, e_setE0, e_setES, e_dOf, e_fzOf, e_fz, e_ow, e_gSl0, e_gSlS, e_gFz0, e_gFzS, e_kC, e_aNil, e_aCons, e_dLst, e_dTup, e_b2, e_pI, e_pAddI, e_pAddL, e_callD, e_bOf, e_bNot, e_bTru, e_truB, e_bAnd, e_bOr, e_vAnd, e_bYes, e_pLenL, e_pLenT, e_pAbs, e_pListOf, e_pIxL, e_pIxT, e_vIsi, e_iLst, e_iEnm, e_gNm, e_oNil, e_oSeq, e_oSet, e_oRet, e_oIf, e_oFor, e_oFrz, e_vLc, e_frz0w, e_frz0f, e_frzS, e_wipeN, e_wipeC, e_oRetV, e_oApp, e_oExt, e_iOwn, e_iOwnE, e_gTpl2, e_pEqI, e_pNeI, e_pNeB, e_pEqB, e_vChain, e_vNeg, e_vRev, e_oInt, e_dSl, e_vNot, e_vOr, e_vLc2, e_isiL, e_isiI, e_isiB, e_isBB, e_oPar, e_oAug, e_oRevS, e_vIf, e_gGh, e_vRepL, e_pInt1B, e_oAugIx, e_mUnp, e_mPar2, e_mPar3, e_xTup, e_xLst, e_allN, e_allC, e_mDrp2, e_gTpl3, e_oSwap, e_vCallT, e_xCallO, e_mIns, e_mSetIx, e_vLend, e_flatO, e_flatFB, e_flatFI, e_isB, e_isNotBB, e_oUnp, e_iZp, e_oSetIxM, e_oIns, e_oWhile, e_xPV, e_xP, e_xPB, e_xPI, e_xV, e_xFz, e_x2, e_x2N, e_xB, e_xGix, e_mNil, e_mSeq, e_mIf, e_mRet, e_mSet, e_mGset, e_mGaug, e_mLft, e_mFor, e_mApp, e_gaNil, e_gaV, e_gaG, e_xCallG, Nat.reduceLT, Nat.reduceLeDiff, cutD_nums, cutI_take, e_pSum, h2]
    · intro h
      have h' : pre b n < pre a n := by simpa using h
      have h2 : decide ((b.take n).sum < (a.take n).sum) = true := decide_eq_true h'
      simp only [List.map_cons, List.map_nil, List.length_cons, List.length_nil, List.replicate, List.cons_append, List.nil_append, List.getElem?_cons_zero, List.getElem?_cons_succ, List.set_cons_succ, List.set_cons_zero, Nat.reduceSub, Nat.zero_add, Nat.reduceAdd, Option.map_some, Option.map_none, Option.bind_some, if_true, List.length_map, List.length_range, e_setE0, e_setES, e_dOf, e_fzOf, e_fz, e_ow, e_gSl0, e_gSlS, e_gFz0, e_gFzS, e_kC, e_aNil, e_aCons, e_dLst, e_dTup, e_b2, e_pI, e_pAddI, e_pAddL, e_callD, e_bOf, e_bNot, e_bTru, e_truB, e_bAnd, e_bOr, e_vAnd, e_bYes, e_pLenL, e_pLenT, e_pAbs, e_pListOf, e_pIxL, e_pIxT, e_vIsi, e_iLst, e_iEnm, e_gNm, e_oNil, e_oSeq, e_oSet, e_oRet, e_oIf, e_oFor, e_oFrz, e_vLc, e_frz0w, e_frz0f, e_frzS, e_wipeN, e_wipeC, e_oRetV, e_oApp, e_oExt, e_iOwn, e_iOwnE, e_gTpl2, e_pEqI, e_pNeI, e_pNeB, e_pEqB, e_vChain, e_vNeg, e_vRev, e_oInt, e_dSl, e_vNot, e_vOr, e_vLc2, e_isiL, e_isiI, e_isiB, e_isBB, e_oPar, e_oAug, e_oRevS, e_vIf, e_gGh, e_vRepL, e_pInt1B, e_oAugIx, e_mUnp, e_mPar2, e_mPar3, e_xTup, e_xLst, e_allN, e_allC, e_mDrp2, e_gTpl3, e_oSwap, e_vCallT, e_xCallO, e_mIns, e_mSetIx, e_vLend, e_flatO, e_flatFB, e_flatFI, e_isB, e_isNotBB, e_oUnp, e_iZp, e_oSetIxM, e_oIns, e_oWhile, e_xPV, e_xP, e_xPB, e_xPI, e_xV, e_xFz, e_x2, e_x2N, e_xB, e_xGix, e_mNil, e_mSeq, e_mIf, e_mRet, e_mSet, e_mGset, e_mGaug, e_mLft, e_mFor, e_mApp, e_gaNil, e_gaV, e_gaG, e_xCallG, Nat.reduceLT, Nat.reduceLeDiff, cutD_nums, cutI_take, e_pSum, h2])
  unfold m_law_beneath mirror g_law_beneath startE
  simp only [List.map_cons, List.map_nil, List.length_cons, List.length_nil, List.replicate, List.cons_append, List.nil_append, List.getElem?_cons_zero, List.getElem?_cons_succ, List.set_cons_succ, List.set_cons_zero, Nat.reduceSub, Nat.zero_add, Nat.reduceAdd, Option.map_some, Option.map_none, Option.bind_some, if_true, List.length_map, List.length_range, e_setE0, e_setES, e_dOf, e_fzOf, e_fz, e_ow, e_gSl0, e_gSlS, e_gFz0, e_gFzS, e_kC, e_aNil, e_aCons, e_dLst, e_dTup, e_b2, e_pI, e_pAddI, e_pAddL, e_callD, e_bOf, e_bNot, e_bTru, e_truB, e_bAnd, e_bOr, e_vAnd, e_bYes, e_pLenL, e_pLenT, e_pAbs, e_pListOf, e_pIxL, e_pIxT, e_vIsi, e_iLst, e_iEnm, e_gNm, e_oNil, e_oSeq, e_oSet, e_oRet, e_oIf, e_oFor, e_oFrz, e_vLc, e_frz0w, e_frz0f, e_frzS, e_wipeN, e_wipeC, e_oRetV, e_oApp, e_oExt, e_iOwn, e_iOwnE, e_gTpl2, e_pEqI, e_pNeI, e_pNeB, e_pEqB, e_vChain, e_vNeg, e_vRev, e_oInt, e_dSl, e_vNot, e_vOr, e_vLc2, e_isiL, e_isiI, e_isiB, e_isBB, e_oPar, e_oAug, e_oRevS, e_vIf, e_gGh, e_vRepL, e_pInt1B, e_oAugIx, e_mUnp, e_mPar2, e_mPar3, e_xTup, e_xLst, e_allN, e_allC, e_mDrp2, e_gTpl3, e_oSwap, e_vCallT, e_xCallO, e_mIns, e_mSetIx, e_vLend, e_flatO, e_flatFB, e_flatFI, e_isB, e_isNotBB, e_oUnp, e_iZp, e_oSetIxM, e_oIns, e_oWhile, e_xPV, e_xP, e_xPB, e_xPI, e_xV, e_xFz, e_x2, e_x2N, e_xB, e_xGix, e_mNil, e_mSeq, e_mIf, e_mRet, e_mSet, e_mGset, e_mGaug, e_mLft, e_mFor, e_mApp, e_gaNil, e_gaV, e_gaG, e_xCallG, Nat.reduceLT, Nat.reduceLeDiff, it]
  unfold lbB
  cases q : (List.range (a.length + b.length + 1)).all fun (n : Nat) => decide (pre a n ≤ pre b n) with
  | true =>
    obtain ⟨y', e⟩ := fa.1 q
    simp only [List.map_cons, List.map_nil, List.length_cons, List.length_nil, List.replicate, List.cons_append, List.nil_append, List.getElem?_cons_zero, List.getElem?_cons_succ, List.set_cons_succ, List.set_cons_zero, Nat.reduceSub, Nat.zero_add, Nat.reduceAdd, Option.map_some, Option.map_none, Option.bind_some, if_true, List.length_map, List.length_range, e_setE0, e_setES, e_dOf, e_fzOf, e_fz, e_ow, e_gSl0, e_gSlS, e_gFz0, e_gFzS, e_kC, e_aNil, e_aCons, e_dLst, e_dTup, e_b2, e_pI, e_pAddI, e_pAddL, e_callD, e_bOf, e_bNot, e_bTru, e_truB, e_bAnd, e_bOr, e_vAnd, e_bYes, e_pLenL, e_pLenT, e_pAbs, e_pListOf, e_pIxL, e_pIxT, e_vIsi, e_iLst, e_iEnm, e_gNm, e_oNil, e_oSeq, e_oSet, e_oRet, e_oIf, e_oFor, e_oFrz, e_vLc, e_frz0w, e_frz0f, e_frzS, e_wipeN, e_wipeC, e_oRetV, e_oApp, e_oExt, e_iOwn, e_iOwnE, e_gTpl2, e_pEqI, e_pNeI, e_pNeB, e_pEqB, e_vChain, e_vNeg, e_vRev, e_oInt, e_dSl, e_vNot, e_vOr, e_vLc2, e_isiL, e_isiI, e_isiB, e_isBB, e_oPar, e_oAug, e_oRevS, e_vIf, e_gGh, e_vRepL, e_pInt1B, e_oAugIx, e_mUnp, e_mPar2, e_mPar3, e_xTup, e_xLst, e_allN, e_allC, e_mDrp2, e_gTpl3, e_oSwap, e_vCallT, e_xCallO, e_mIns, e_mSetIx, e_vLend, e_flatO, e_flatFB, e_flatFI, e_isB, e_isNotBB, e_oUnp, e_iZp, e_oSetIxM, e_oIns, e_oWhile, e_xPV, e_xP, e_xPB, e_xPI, e_xV, e_xFz, e_x2, e_x2N, e_xB, e_xGix, e_mNil, e_mSeq, e_mIf, e_mRet, e_mSet, e_mGset, e_mGaug, e_mLft, e_mFor, e_mApp, e_gaNil, e_gaV, e_gaG, e_xCallG, Nat.reduceLT, Nat.reduceLeDiff, e]
  | false =>
    have e := fa.2 q
    simp only [List.map_cons, List.map_nil, List.length_cons, List.length_nil, List.replicate, List.cons_append, List.nil_append, List.getElem?_cons_zero, List.getElem?_cons_succ, List.set_cons_succ, List.set_cons_zero, Nat.reduceSub, Nat.zero_add, Nat.reduceAdd, Option.map_some, Option.map_none, Option.bind_some, if_true, List.length_map, List.length_range, e_setE0, e_setES, e_dOf, e_fzOf, e_fz, e_ow, e_gSl0, e_gSlS, e_gFz0, e_gFzS, e_kC, e_aNil, e_aCons, e_dLst, e_dTup, e_b2, e_pI, e_pAddI, e_pAddL, e_callD, e_bOf, e_bNot, e_bTru, e_truB, e_bAnd, e_bOr, e_vAnd, e_bYes, e_pLenL, e_pLenT, e_pAbs, e_pListOf, e_pIxL, e_pIxT, e_vIsi, e_iLst, e_iEnm, e_gNm, e_oNil, e_oSeq, e_oSet, e_oRet, e_oIf, e_oFor, e_oFrz, e_vLc, e_frz0w, e_frz0f, e_frzS, e_wipeN, e_wipeC, e_oRetV, e_oApp, e_oExt, e_iOwn, e_iOwnE, e_gTpl2, e_pEqI, e_pNeI, e_pNeB, e_pEqB, e_vChain, e_vNeg, e_vRev, e_oInt, e_dSl, e_vNot, e_vOr, e_vLc2, e_isiL, e_isiI, e_isiB, e_isBB, e_oPar, e_oAug, e_oRevS, e_vIf, e_gGh, e_vRepL, e_pInt1B, e_oAugIx, e_mUnp, e_mPar2, e_mPar3, e_xTup, e_xLst, e_allN, e_allC, e_mDrp2, e_gTpl3, e_oSwap, e_vCallT, e_xCallO, e_mIns, e_mSetIx, e_vLend, e_flatO, e_flatFB, e_flatFI, e_isB, e_isNotBB, e_oUnp, e_iZp, e_oSetIxM, e_oIns, e_oWhile, e_xPV, e_xP, e_xPB, e_xPI, e_xV, e_xFz, e_x2, e_x2N, e_xB, e_xGix, e_mNil, e_mSeq, e_mIf, e_mRet, e_mSet, e_mGset, e_mGaug, e_mLft, e_mFor, e_mApp, e_gaNil, e_gaV, e_gaG, e_xCallG, Nat.reduceLT, Nat.reduceLeDiff, e]
theorem so_spec (a b : Bool) : m_law_so [.bool a, .bool b] = some (.fz (.bool (a == b))) := by
  unfold m_law_so mirror g_law_so startE
  simp only [List.map_cons, List.map_nil, List.length_cons, List.length_nil, List.replicate, List.cons_append, List.nil_append, List.getElem?_cons_zero, List.getElem?_cons_succ, List.set_cons_succ, List.set_cons_zero, Nat.reduceSub, Nat.zero_add, Nat.reduceAdd, Option.map_some, Option.map_none, Option.bind_some, if_true, List.length_map, List.length_range, e_setE0, e_setES, e_dOf, e_fzOf, e_fz, e_ow, e_gSl0, e_gSlS, e_gFz0, e_gFzS, e_kC, e_aNil, e_aCons, e_dLst, e_dTup, e_b2, e_pI, e_pAddI, e_pAddL, e_callD, e_bOf, e_bNot, e_bTru, e_truB, e_bAnd, e_bOr, e_vAnd, e_bYes, e_pLenL, e_pLenT, e_pAbs, e_pListOf, e_pIxL, e_pIxT, e_vIsi, e_iLst, e_iEnm, e_gNm, e_oNil, e_oSeq, e_oSet, e_oRet, e_oIf, e_oFor, e_oFrz, e_vLc, e_frz0w, e_frz0f, e_frzS, e_wipeN, e_wipeC, e_oRetV, e_oApp, e_oExt, e_iOwn, e_iOwnE, e_gTpl2, e_pEqI, e_pNeI, e_pNeB, e_pEqB, e_vChain, e_vNeg, e_vRev, e_oInt, e_dSl, e_vNot, e_vOr, e_vLc2, e_isiL, e_isiI, e_isiB, e_isBB, e_oPar, e_oAug, e_oRevS, e_vIf, e_gGh, e_vRepL, e_pInt1B, e_oAugIx, e_mUnp, e_mPar2, e_mPar3, e_xTup, e_xLst, e_allN, e_allC, e_mDrp2, e_gTpl3, e_oSwap, e_vCallT, e_xCallO, e_mIns, e_mSetIx, e_vLend, e_flatO, e_flatFB, e_flatFI, e_isB, e_isNotBB, e_oUnp, e_iZp, e_oSetIxM, e_oIns, e_oWhile, e_xPV, e_xP, e_xPB, e_xPI, e_xV, e_xFz, e_x2, e_x2N, e_xB, e_xGix, e_mNil, e_mSeq, e_mIf, e_mRet, e_mSet, e_mGset, e_mGaug, e_mLft, e_mFor, e_mApp, e_gaNil, e_gaV, e_gaG, e_xCallG, Nat.reduceLT, Nat.reduceLeDiff]
end
end Com
namespace Com
open PySem L2 Bd TL
noncomputable section
def TOk (n : Nat) (x : Str) : Prop := (tl x).length ≤ n ∧ ∀ c ∈ tl x, c < 0x110000
theorem TOk.mono {m n : Nat} {x : Str} (h : TOk m x) (k : m ≤ n) : TOk n x := ⟨Nat.le_trans h.1 k, h.2⟩
theorem TOk.len {n : Nat} {x : Str} (h : TOk n x) : x.length ≤ n := by rw [len_tl]; exact h.1
theorem TOk.ok {n : Nat} {x : Str} (h : TOk n x) : PyData.strOk x = true := by
  unfold PyData.strOk
  rw [← Array.all_toList, List.all_eq_true]
  intro c hc
  exact decide_eq_true (h.2 c hc)
theorem TOk.app {m n : Nat} {x y : Str} (h : TOk m x) (k : TOk n y) : TOk (m + n) (x ++ y) := by
  unfold TOk
  rw [tl_append, List.length_append]
  refine ⟨Nat.add_le_add h.1 k.1, fun c hc => ?_⟩
  rcases List.mem_append.mp hc with q | q
  · exact h.2 c q
  · exact k.2 c q
end
end Com
namespace Tb
open PySem L2 Bd Ra
open Com hiding g_law_row m_law_row
noncomputable section
end
end Tb
namespace Bd
open PySem L2
noncomputable section
section
variable {S : Sx} {i : Nat}
def WX (S : Sx) (i : Nat) (e : Expr) (f : En → List PyData → Option (Bool × List PyData)) : Prop :=
  ∃ t : TT, (∀ X, S.Ok X → PW X e t) ∧ ∀ Γ σ H0 F H Q a g b g', EnR S.K H0 F H Γ σ → Gh S.K H0 F H Γ σ i a g → f Γ g = some (b, g') →
    (∀ F' H' vs', SubX a F H F' H' → H' a = some (.lst vs') → DpAll S.K F' vs' g' → Q b H') → t σ H Q
theorem WX.t {e : Expr} {f} (h : WX S i e f) : TX S i e f := by
  obtain ⟨t, a1, a2⟩ := h
  exact ⟨t, fun X ok => (a1 X ok).pt, a2⟩
end
end
end Bd
namespace Ra
def gcs (r : List Int) : Nat := r.foldr (fun x g => Nat.gcd x.natAbs g) 0
theorem gcs_dvd : ∀ (r : List Int), ∀ x ∈ r, gcs r ∣ x.natAbs
  | y :: r, x, h => by
    show Nat.gcd y.natAbs (gcs r) ∣ _
    rcases List.mem_cons.mp h with rfl | h
    · exact Nat.gcd_dvd_left ..
    · exact Nat.dvd_trans (Nat.gcd_dvd_right ..) (gcs_dvd r x h)
def lsn (r : List Int) : List Int := r.map (· / ((max 1 (gcs r) : Nat) : Int))
theorem lsn_fn (r : List Int) (x : Nat) : ((max 1 (gcs r) : Nat) : Int) * fn (lsn r) x = fn r x := by
  unfold lsn fn
  rw [List.getD, List.getElem?_map, List.getD]
  cases q : r[x]? with
  | none => simp
  | some y =>
    simp only [Option.map_some, Option.getD_some]
    have hd := gcs_dvd r y (List.mem_of_getElem? q)
    refine Int.mul_ediv_cancel' ?_
    by_cases h : gcs r = 0
    · rw [h]; simp
    · rw [show max 1 (gcs r) = gcs r by omega]
      exact Int.ofNat_dvd_left.mpr hd
theorem gcs_mul (k : Nat) : ∀ (r : List Int), gcs (r.map fun x => (k : Int) * x) = k * gcs r
  | [] => rfl
  | y :: r => by
    show Nat.gcd ((k : Int) * y).natAbs (gcs (r.map fun x => (k : Int) * x)) = k * Nat.gcd y.natAbs (gcs r)
    rw [gcs_mul k r, Int.natAbs_mul, Int.natAbs_natCast, Nat.gcd_mul_left]
theorem lsn_prim {r : List Int} (h : gcs r ≠ 0) : gcs (lsn r) = 1 := by
  have e : r = (lsn r).map fun x => ((gcs r : Nat) : Int) * x := by
    apply List.ext_getElem?
    intro i
    rw [List.getElem?_map]
    unfold lsn
    rw [List.getElem?_map]
    cases q : r[i]? with
    | none => rfl
    | some y =>
      have := lsn_fn r i
      rw [show max 1 (gcs r) = gcs r by omega] at this
      have e1 : fn r i = y := by unfold fn; rw [List.getD, q]; rfl
      have e2 : fn (lsn r) i = y / ((max 1 (gcs r) : Nat) : Int) := by unfold fn lsn; rw [List.getD, List.getElem?_map, q]; rfl
      rw [e1, e2] at this
      simp only [Option.map_some]
      rw [this]
  have e3 := congrArg gcs e
  rw [gcs_mul] at e3
  exact Nat.eq_of_mul_eq_mul_left (Nat.pos_of_ne_zero h) (by omega)
theorem gcs_nil {r : List Int} (h : gcs r = 0) (x : Nat) : fn r x = 0 := by
  unfold fn
  rw [List.getD]
  cases q : r[x]? with
  | none => rfl
  | some y =>
    have := gcs_dvd r y (List.mem_of_getElem? q)
    rw [h] at this
    have := Nat.eq_zero_of_zero_dvd this
    show y = 0
    omega
def Ln (F : List Nat → Int) (u o : Rw) : Prop := ∃ q p : Int, q ≠ 0 ∧ p ≠ 0 ∧ ∀ cs, q * wdg u F cs = p * wdg o F cs
theorem Ln.self (F : List Nat → Int) (o : Rw) : Ln F o o := ⟨1, 1, by decide, by decide, fun _ => rfl⟩
theorem wdg_mul (r : Rw) (a : Int) (F : List Nat → Int) (cs : List Nat) : wdg r (fun ds => a * F ds) cs = a * wdg r F cs := by
  have := wdg_lin r a 0 cs F F
  have e : (fun ds => a * F ds + 0 * F ds) = fun ds => a * F ds := by funext ds; omega
  rw [e] at this; omega
theorem Ln.more {F : List Nat → Int} {u o : Rw} (h : Ln F u o) (b : Rw) : Ln (wdg b F) u o := by
  obtain ⟨q, p, q0, p0, e⟩ := h
  refine ⟨q, p, q0, p0, fun cs => ?_⟩
  rw [wdg_anti u b, wdg_anti o b, Int.mul_neg, Int.mul_neg, ← wdg_mul, ← wdg_mul, funext e]
theorem Ln.neg {F : List Nat → Int} {u o : Rw} (h : Ln F u o) : Ln (fun ds => -1 * F ds) u o := by
  obtain ⟨q, p, q0, p0, e⟩ := h
  refine ⟨q, p, q0, p0, fun cs => ?_⟩
  rw [wdg_mul, wdg_mul]
  have := e cs
  rw [← Int.mul_assoc, ← Int.mul_assoc, Int.mul_comm q, Int.mul_comm p, Int.mul_assoc, Int.mul_assoc, this]
theorem Ln.out {F : List Nat → Int} {u o : Rw} (h : Ln F u o) (cs : List Nat) : wdg u (wdg o F) cs = 0 := by
  obtain ⟨q, p, q0, p0, e⟩ := h
  have : q * wdg u (wdg o F) cs = 0 := by
    rw [wdg_anti u o, Int.mul_neg, ← wdg_mul, funext e, wdg_mul, wdg_self]; simp
  exact (Int.mul_eq_zero.mp this).resolve_left q0
theorem Ln.step {F : List Nat → Int} {u o l b : Rw} (h : Ln F u o) (hl : Ln F l b) {a c g : Int} (ha : a ≠ 0) (hg : g ≠ 0) {v : Rw} (hv : ∀ x, g * v x = a * u x + c * l x) : Ln (wdg b F) v o := by
  obtain ⟨q, p, q0, p0, e⟩ := h.more b
  refine ⟨g * q, a * p, Int.mul_ne_zero hg q0, Int.mul_ne_zero ha p0, fun cs => ?_⟩
  have e1 : g * wdg v (wdg b F) cs = a * wdg u (wdg b F) cs := by
    have w1 := wdg_row a c u l cs (wdg b F)
    rw [← funext hv, hl.out, Int.mul_zero, Int.add_zero] at w1
    have w2 := wdg_row g 0 v v cs (wdg b F)
    have e : (fun x => g * v x + 0 * v x) = fun x => g * v x := by funext x; omega
    rw [e] at w2
    omega
  rw [Int.mul_comm g q, Int.mul_assoc, e1, ← Int.mul_assoc, Int.mul_comm q a, Int.mul_assoc, e, Int.mul_assoc]
theorem Ln.scale {F G : List Nat → Int} {u o : Rw} (h : Ln F u o) {s : Int} (e : ∀ cs, G cs = s * F cs) : Ln G u o := by
  obtain ⟨q, p, q0, p0, e'⟩ := h
  refine ⟨q, p, q0, p0, fun cs => ?_⟩
  rw [funext e, wdg_mul, wdg_mul, ← Int.mul_assoc, ← Int.mul_assoc, Int.mul_comm q, Int.mul_comm p, Int.mul_assoc, Int.mul_assoc, e']
abbrev Kp := List (Nat × List Int)
def lk (K : Kp) (j : Nat) : Option (List Int) := (K.find? fun p => p.1 == j).map (·.2)
def As (K : Kp) (og : Nat → Rw) : Nat → List Rw
  | 0 => []
  | j + 1 => match lk K j with
    | some _ => og j :: As K og j
    | none => As K og j
def Cs (K : Kp) : Nat → List Nat
  | 0 => []
  | j + 1 => match lk K j with
    | some _ => j :: Cs K j
    | none => Cs K j
theorem Cs_lt {K : Kp} : ∀ {j c : Nat}, c ∈ Cs K j → c < j
  | 0, c, h => nomatch h
  | j + 1, c, h => by
    unfold Cs at h
    split at h
    · rcases List.mem_cons.mp h with rfl | h
      · omega
      · have := Cs_lt h; omega
    · have := Cs_lt h; omega
def Pr (B : Nat) (u : List Int) : Prop := gcs u ≤ 1 ∨ ∀ x, (fn u x).natAbs ≤ B
structure SI (B : Nat) (T : List (List Int)) (w : Nat) (K : Kp) (og : Nat → Rw) : Prop where
  ld : ∀ p ∈ K, p.2.length = w ∧ p.1 < w ∧ fn p.2 p.1 ≠ 0 ∧ ∀ x, x < p.1 → fn p.2 x = 0
  nd : (K.map (·.1)).Nodup
  ob : ∀ j x, (og j x).natAbs ≤ B
  ln : ∀ j l, lk K j = some l → Ln (dt (As K og j)) (fn l) (og j)
  pr : ∀ p ∈ K, Pr B p.2
  s2 : ∀ p ∈ K, Sp (Rs T) (fn p.2)
theorem lk_mem {K : Kp} {j : Nat} {l : List Int} (h : lk K j = some l) : (j, l) ∈ K := by
  unfold lk at h
  cases q : K.find? fun p => p.1 == j with
  | none => rw [q] at h; exact nomatch h
  | some p =>
    rw [q] at h
    have e1 : p.1 = j := by have := List.find?_some q; simpa using this
    have e2 : p.2 = l := by simpa using h
    have := List.mem_of_find?_eq_some q
    rw [← e1, ← e2]; exact this
theorem lk_none {K : Kp} {j : Nat} (h : lk K j = none) : ∀ p ∈ K, p.1 ≠ j := fun p hp e => by
  unfold lk at h
  rw [Option.map_eq_none_iff, List.find?_eq_none] at h
  exact h p hp (by simp [e])
theorem SI.d0 {B : Nat} {T : List (List Int)} {w : Nat} {K : Kp} {og : Nat → Rw} (I : SI B T w K og) : ∀ j, dt (As K og j) (Cs K j) ≠ 0
  | 0 => by show (if ([] : List Nat) = [] then (1 : Int) else 0) ≠ 0; decide
  | j + 1 => by
    have ih := I.d0 j
    unfold As Cs
    cases q : lk K j with
    | none => exact ih
    | some l =>
      obtain ⟨_, _, l0, lz⟩ := I.ld _ (lk_mem q)
      obtain ⟨a, p, a0, p0, e⟩ := I.ln j l q
      have := e (j :: Cs K j)
      rw [wdg_one _ _ _ _ fun c hc => lz c (Cs_lt hc)] at this
      intro z
      have z' : wdg (og j) (dt (As K og j)) (j :: Cs K j) = 0 := z
      rw [z', Int.mul_zero] at this
      exact Int.mul_ne_zero a0 (Int.mul_ne_zero l0 ih) this
def upd (og : Nat → Rw) (j : Nat) (o : Rw) : Nat → Rw := fun i => if i = j then o else og i
theorem lk_app {K : Kp} {j : Nat} {u : List Int} (h : lk K j = none) (i : Nat) : lk (K ++ [(j, u)]) i = if i = j then some u else lk K i := by
  unfold lk
  rw [List.find?_append]
  by_cases e : i = j
  · subst e
    unfold lk at h
    rw [Option.map_eq_none_iff] at h
    rw [h, if_pos rfl]
    simp
  · rw [if_neg e]
    cases q : K.find? fun p => p.1 == i with
    | some p => simp
    | none => simp [show ¬ j = i from fun z => e z.symm]
theorem As_lo {K : Kp} {og : Nat → Rw} {j : Nat} {u : List Int} {o : Rw} (h : lk K j = none) : ∀ i, i ≤ j → As (K ++ [(j, u)]) (upd og j o) i = As K og i
  | 0, _ => rfl
  | i + 1, hi => by
    unfold As
    rw [lk_app h, if_neg (by omega), As_lo h i (by omega), show upd og j o i = og i from if_neg (by omega)]
theorem As_hi {K : Kp} {og : Nat → Rw} {j : Nat} {u : List Int} {o : Rw} (h : lk K j = none) : ∀ n, ∃ s : Int, ∀ cs, dt (As (K ++ [(j, u)]) (upd og j o) (j + 1 + n)) cs = s * wdg o (dt (As K og (j + 1 + n))) cs
  | 0 => ⟨1, fun cs => by
    show dt (As (K ++ [(j, u)]) (upd og j o) (j + 1)) cs = 1 * wdg o (dt (As K og (j + 1))) cs
    have e1 : As (K ++ [(j, u)]) (upd og j o) (j + 1) = o :: As K og j := by
      rw [As, lk_app h, if_pos rfl, As_lo h j (Nat.le_refl _), show upd og j o j = o from if_pos rfl]
    have e2 : As K og (j + 1) = As K og j := by
      rw [As, h]
    rw [e1, e2, Int.one_mul]; rfl⟩
  | n + 1 => by
    obtain ⟨s, ih⟩ := As_hi (og := og) (u := u) (o := o) h n
    have e0 : lk (K ++ [(j, u)]) (j + 1 + n) = lk K (j + 1 + n) := by rw [lk_app h, if_neg (by omega)]
    cases q : lk K (j + 1 + n) with
    | none =>
      refine ⟨s, fun cs => ?_⟩
      have e1 : As (K ++ [(j, u)]) (upd og j o) (j + 1 + (n + 1)) = As (K ++ [(j, u)]) (upd og j o) (j + 1 + n) := by
        rw [← Nat.add_assoc, As, e0, q]
      have e2 : As K og (j + 1 + (n + 1)) = As K og (j + 1 + n) := by rw [← Nat.add_assoc, As, q]
      rw [e1, e2]; exact ih cs
    | some l =>
      refine ⟨-s, fun cs => ?_⟩
      have e1 : As (K ++ [(j, u)]) (upd og j o) (j + 1 + (n + 1)) = og (j + 1 + n) :: As (K ++ [(j, u)]) (upd og j o) (j + 1 + n) := by
        rw [← Nat.add_assoc, As, e0, q, show upd og j o (j + 1 + n) = og (j + 1 + n) from if_neg (by omega)]
      have e2 : As K og (j + 1 + (n + 1)) = og (j + 1 + n) :: As K og (j + 1 + n) := by rw [← Nat.add_assoc, As, q]
      rw [e1, e2]
      show wdg (og (j + 1 + n)) (dt (As (K ++ [(j, u)]) (upd og j o) (j + 1 + n))) cs = -s * wdg o (wdg (og (j + 1 + n)) (dt (As K og (j + 1 + n)))) cs
      rw [funext ih, wdg_mul, wdg_anti (og (j + 1 + n)) o, Int.mul_neg, Int.neg_mul]
theorem SI.add {B : Nat} {T : List (List Int)} {w : Nat} {K : Kp} {og : Nat → Rw} (I : SI B T w K og) {j : Nat} {u : List Int} {o : Rw} (h : lk K j = none) (hw : u.length = w) (hj : j < w) (h0 : fn u j ≠ 0) (hz : ∀ x, x < j → fn u x = 0) (hu : Ln (dt (As K og j)) (fn u) o) (ho : ∀ x, (o x).natAbs ≤ B) (hp : Pr B u) (hs : Sp (Rs T) (fn u)) : SI B T w (K ++ [(j, u)]) (upd og j o) := by
  refine ⟨fun p q => ?_, ?_, fun i x => ?_, fun i l q => ?_, fun p q => ?_, fun p q => ?_⟩
  · rcases List.mem_append.mp q with q | q
    · exact I.ld p q
    · rw [List.mem_singleton.mp q]; exact ⟨hw, hj, h0, hz⟩
  · rw [List.map_append, List.nodup_append]
    refine ⟨I.nd, by simp, fun a ha b hb => ?_⟩
    obtain ⟨p, hp, rfl⟩ := List.mem_map.mp ha
    rw [show b = j by simpa using hb]
    exact lk_none h p hp
  · unfold upd
    split
    · exact ho x
    · exact I.ob i x
  · rw [lk_app h] at q
    by_cases e : i = j
    · rw [if_pos e] at q
      cases q
      rw [e, As_lo h j (Nat.le_refl _), show upd og j o j = o from if_pos rfl]
      exact hu
    · rw [if_neg e] at q
      have := I.ln i l q
      rw [show upd og j o i = og i from if_neg e]
      by_cases lt : i < j
      · rw [As_lo h i (by omega)]; exact this
      · obtain ⟨s, es⟩ := As_hi (og := og) (u := u) (o := o) h (i - (j + 1))
        rw [show j + 1 + (i - (j + 1)) = i by omega] at es
        exact (this.more o).scale es
  · rcases List.mem_append.mp q with q | q
    · exact I.pr p q
    · rw [List.mem_singleton.mp q]; exact hp
  · rcases List.mem_append.mp q with q | q
    · exact I.s2 p q
    · rw [List.mem_singleton.mp q]; exact hs
def crs (l u : List Int) (j : Nat) : List Int := List.zipWith (fun a b => l.getD j 0 * a - u.getD j 0 * b) u l
theorem crs_fn {l u : List Int} {j : Nat} (h : u.length = l.length) (x : Nat) : fn (crs l u j) x = fn l j * fn u x + (-fn u j) * fn l x := by
  unfold crs
  by_cases hx : x < u.length
  · have e : fn (List.zipWith (fun a b => l.getD j 0 * a - u.getD j 0 * b) u l) x = l.getD j 0 * fn u x - u.getD j 0 * fn l x := by
      unfold fn
      rw [List.getD, List.getElem?_zipWith, List.getElem?_eq_getElem hx, List.getElem?_eq_getElem (by omega)]
      simp [List.getD, hx, show x < l.length by omega]
    rw [e, Int.neg_mul]
    show fn l j * fn u x - fn u j * fn l x = _
    omega
  · have z : ∀ r : List Int, r.length ≤ x → fn r x = 0 := fun r hr => by unfold fn; simp [List.getD, List.getElem?_eq_none hr]
    rw [z _ (by rw [List.length_zipWith]; omega), z u (by omega), z l (by omega)]; simp
theorem lsn_len (r : List Int) : (lsn r).length = r.length := by unfold lsn; rw [List.length_map]
def put (K : Kp) : Nat → Nat → List Int → Kp
  | 0, j, u => K
  | n + 1, j, u => if fn u j = 0 then put K n (j + 1) u else match lk K j with
    | some l => put K n (j + 1) (lsn (crs l u j))
    | none => K ++ [(j, u)]
structure UI (B : Nat) (T : List (List Int)) (w : Nat) (K : Kp) (og : Nat → Rw) (j : Nat) (u : List Int) (o : Rw) : Prop where
  wd : u.length = w
  z : ∀ x, x < j → fn u x = 0
  ln : Ln (dt (As K og j)) (fn u) o
  ob : ∀ x, (o x).natAbs ≤ B
  pr : Pr B u
  sp : Sp (Rs T) (fn u)
section
variable {B : Nat} {T : List (List Int)} {w : Nat} {K : Kp} {og : Nat → Rw} {j : Nat} {u : List Int} {o : Rw}
theorem UI.pass (U : UI B T w K og j u o) (h : fn u j = 0) : UI B T w K og (j + 1) u o := by
  refine ⟨U.wd, fun x hx => ?_, ?_, U.ob, U.pr, U.sp⟩
  · by_cases e : x = j
    · rw [e]; exact h
    · exact U.z x (by omega)
  · rw [As]
    cases lk K j with
    | none => exact U.ln
    | some l => exact U.ln.more (og j)
theorem UI.step (U : UI B T w K og j u o) (I : SI B T w K og) {l : List Int} (h : lk K j = some l) : UI B T w K og (j + 1) (lsn (crs l u j)) o := by
  obtain ⟨lw, _, l0, lz⟩ := I.ld _ (lk_mem h)
  have cl : (crs l u j).length = w := by unfold crs; rw [List.length_zipWith, U.wd, lw, Nat.min_self]
  have e : ∀ x, ((max 1 (gcs (crs l u j)) : Nat) : Int) * fn (lsn (crs l u j)) x = fn l j * fn u x + (-fn u j) * fn l x := fun x => by rw [lsn_fn, crs_fn (by rw [U.wd, lw])]
  have g0 : ((max 1 (gcs (crs l u j)) : Nat) : Int) ≠ 0 := by omega
  refine ⟨by rw [lsn_len, cl], fun x hx => ?_, ?_, U.ob, ?_, ?_⟩
  · have := e x
    have r : fn l j * fn u x + (-fn u j) * fn l x = 0 := by
      by_cases q : x = j
      · rw [q, Int.neg_mul, Int.mul_comm (fn l j)]; omega
      · rw [U.z x (by omega), lz x (by show x < j; omega)]; simp
    rw [r] at this
    exact (Int.mul_eq_zero.mp this).resolve_left g0
  · rw [As, h]
    exact U.ln.step (I.ln j l h) l0 g0 e
  · by_cases q : gcs (crs l u j) = 0
    · refine .inr fun x => ?_
      have := e x
      rw [← crs_fn (by rw [U.wd, lw]), gcs_nil q] at this
      rw [(Int.mul_eq_zero.mp this).resolve_left g0]
      exact Nat.zero_le _
    · exact .inl (by rw [lsn_prim q]; exact Nat.le_refl _)
  · refine .div _ g0 ?_
    rw [funext e]
    exact .lin _ _ U.sp (I.s2 _ (lk_mem h))
theorem UI.back (U : UI B T w K og j u o) (I : SI B T w K og) {l : List Int} (h : lk K j = some l) {P : Rw → Prop} (h1 : Sp P (fn (lsn (crs l u j)))) (h2 : Sp P (fn l)) : Sp P (fn u) := by
  obtain ⟨lw, _, l0, lz⟩ := I.ld _ (lk_mem h)
  refine .div (fn l j) l0 ?_
  have := Sp.lin ((max 1 (gcs (crs l u j)) : Nat) : Int) (fn u j) h1 h2
  have e : (fun x => ((max 1 (gcs (crs l u j)) : Nat) : Int) * fn (lsn (crs l u j)) x + fn u j * fn l x) = fun x => fn l j * fn u x := by
    funext x
    rw [lsn_fn, crs_fn (by rw [U.wd]; exact lw.symm), Int.neg_mul]
    omega
  rw [e] at this
  exact this
end
theorem SI.nil (B : Nat) (T : List (List Int)) (w : Nat) : SI B T w [] fun _ _ => 0 :=
  ⟨fun _ h => (nomatch h), List.nodup_nil, fun _ _ => Nat.zero_le _, fun _ _ h => (nomatch h), fun _ h => (nomatch h), fun _ h => nomatch h⟩
theorem UI.start {B : Nat} {T : List (List Int)} {w : Nat} {K : Kp} {og : Nat → Rw} {r : List Int} (hr : r ∈ T) (hw : r.length = w) (hB : ∀ x, (fn r x).natAbs ≤ B) : UI B T w K og 0 r (fn r) :=
  ⟨hw, fun _ h => (nomatch h), .self _ _, hB, .inr hB, .base ⟨r, hr, rfl⟩⟩
end Ra
namespace Bd
open PySem L2
noncomputable section
section
variable {S : Sx}
end
end
end Bd
namespace Tb
open PySem L2 Bd
end Tb
namespace Bd
open PySem L2
noncomputable section
abbrev Gd := List (Int × PyData)
inductive DpKv (K : PySem.W.Frag) (F : Hp) : List (Key × V) → Gd → Prop where
  | nil : DpKv K F [] []
  | cons {k : Int} {v : V} {d : PyData} {kvs : List (Key × V)} {g : Gd} : Dp K F v d → DpKv K F kvs g → DpKv K F ((.inl k, v) :: kvs) ((k, d) :: g)
theorem dpKv_mono {K : PySem.W.Frag} {F F' : Hp} (s : Same F F') : ∀ {kvs : List (Key × V)} {g : Gd}, DpKv K F kvs g → DpKv K F' kvs g
  | _, _, .nil => .nil
  | _, _, .cons h t => .cons (dp_mono s h) (dpKv_mono s t)
structure GhD (K : PySem.W.Frag) (H0 F H : Hp) (Γ : En) (σ : St) (i : Nat) (a : Addr) (g : Gd) : Prop where
  si : σ[i]? = some (some (.ref a))
  gi : Γ[i]? = some none
  h0 : H0 a = none
  f0 : F a = none
  hv : ∃ vs, H a = some (.dK vs) ∧ DpKv K F vs g
  ap : ∀ (j : Nat) (xs : List PyData), Γ[j]? = some (some (.ow xs)) → σ[j]? = some (some (.ref a)) → False
section
variable {K : PySem.W.Frag} {F0 H0 F H F' H' : Hp} {Γ : En} {σ : St} {i : Nat} {a : Addr} {g g' : Gd} {vs' : List (Key × V)}
theorem GhD.here (G : GhD K H0 F H Γ σ i a g) : ∃ o, H a = some o := by
  obtain ⟨vs, h, _⟩ := G.hv
  exact ⟨_, h⟩
theorem GhD.next (G : GhD K H0 F H Γ σ i a g) (u : SubX a F H F' H') (hv : H' a = some (.dK vs')) (hd : DpKv K F' vs' g') : GhD K H0 F' H' Γ σ i a g' := by
  obtain ⟨o, h⟩ := G.here
  exact ⟨G.si, G.gi, G.h0, u.o a o h G.f0, ⟨vs', hv, hd⟩, G.ap⟩
end
section
variable {S : Sx} {i : Nat}
def TD (S : Sx) (i : Nat) (e : Expr) (f : En → Gd → Option (Bool × Gd)) : Prop :=
  ∃ t : TT, (∀ X, S.Ok X → PT X e t) ∧ ∀ Γ σ H0 F H Q a g b g', EnR S.K H0 F H Γ σ → GhD S.K H0 F H Γ σ i a g → f Γ g = some (b, g') →
    (∀ F' H' vs', SubX a F H F' H' → H' a = some (.dK vs') → DpKv S.K F' vs' g' → Q b H') → t σ H Q
def xDB (f : En → Option Bool) : En → Gd → Option (Bool × Gd) := fun Γ g => (f Γ).map fun s => (s, g)
theorem ST.d {e : Expr} {f} (h : ST S e f) : TD S i e (xDB f) := by
  obtain ⟨t, a1, a2⟩ := h
  refine ⟨t, a1, fun Γ σ H0 F H Q a g s g' E G hf k => ?_⟩
  unfold xDB at hf
  cases q : f Γ with
  | none => rw [q] at hf; cases hf
  | some s' =>
    rw [q] at hf; cases hf
    obtain ⟨vs, h1, h2⟩ := G.hv
    exact a2 Γ σ H0 F H _ _ E q fun F' H' u => k F' H' vs u.x (u.h _ _ h1) (dpKv_mono u.f h2)
end
inductive OutD where
  | nx (Γ : En) (g : Gd) | rt (s : Sl) (g : Gd) | bk (Γ : En) (g : Gd) | ct (Γ : En) (g : Gd)
def EndD (K : PySem.W.Frag) (F0 H0 : Hp) (i : Nat) (a : Addr) (D : Ends) : OutD → Prop
  | .nx Γ g => ∀ σ F H, StR K F0 H0 F H Γ σ → GhD K H0 F H Γ σ i a g → D.nx σ H
  | .bk Γ g => ∀ σ F H, StR K F0 H0 F H Γ σ → GhD K H0 F H Γ σ i a g → D.bk σ H
  | .ct Γ g => ∀ σ F H, StR K F0 H0 F H Γ σ → GhD K H0 F H Γ σ i a g → D.ct σ H
  | .rt s g => ∀ v F H vs, Sub F0 H0 F H → F a = none → H a = some (.dK vs) → DpKv K F vs g → SlN K H0 F H s v → (∀ xs b, s = .ow xs → v = .ref b → b ≠ a) → D.rt v H
section
variable {S : Sx} {i : Nat}
end
section
variable {S : Sx} {i : Nat}
def IXD (S : Sx) (i : Nat) (tg iter : Expr) (f : En → Gd → Option (List PyData × Gd)) : Prop :=
  ∃ wi : TI, (∀ X, S.Ok X → PI X tg iter wi) ∧ ∀ Γ σ H0 F H R a g ds g', EnR S.K H0 F H Γ σ → GhD S.K H0 F H Γ σ i a g → f Γ g = some (ds, g') →
    (∀ J F' H' vs', SubX a F H F' H' → H' a = some (.dK vs') → DpKv S.K F' vs' g' → ItR S.K F' F' J ds → R J H') → wi σ H R
def xDI (f : En → Option (List PyData)) : En → Gd → Option (List PyData × Gd) := fun Γ g => (f Γ).map fun s => (s, g)
theorem SIV.d {tg iter : Expr} {f} (h : SIV S tg iter f) : IXD S i tg iter (xDI f) := by
  obtain ⟨t, a1, a2⟩ := h
  refine ⟨t, a1, fun Γ σ H0 F H R a g ds g' E G hf k => ?_⟩
  unfold xDI at hf
  cases q : f Γ with
  | none => rw [q] at hf; cases hf
  | some s' =>
    rw [q] at hf; cases hf
    obtain ⟨vs, h1, h2⟩ := G.hv
    exact a2 Γ σ H0 F H _ _ E q fun J F' H' u it => k J F' H' vs u.x (u.h _ _ h1) (dpKv_mono u.f h2) it
theorem EndD.rebase {K : PySem.W.Frag} {F0 H0 F1 H1 : Hp} {a : Addr} {D : Ends} {o : OutD} (u : Sub F0 H0 F1 H1) (k : EndD K F0 H0 i a D o) : EndD K F1 H0 i a D o := by
  cases o with
  | nx Γ l => exact fun σ F H R z => k σ F H (R.rebase u) z
  | bk Γ l => exact fun σ F H R z => k σ F H (R.rebase u) z
  | ct Γ l => exact fun σ F H R z => k σ F H (R.rebase u) z
  | rt s l => exact fun v F H ws R f hv hd l nb => k v F H ws (u.rebase R) f hv hd l nb
end
end
end Bd
namespace Bd
open PySem L2
noncomputable section
def gget (g : Gd) (k : Int) : Option PyData := (g.find? fun p => decide (p.1 = k)).map (·.2)
def gput (g : Gd) (k : Int) (d : PyData) : Gd := if (g.any fun p => decide (p.1 = k)) = true then g.map (fun p => if p.1 = k then (p.1, d) else p) else g ++ [(k, d)]
section
variable {K : PySem.W.Frag} {F : Hp}
theorem DpKv.length : ∀ {kvs : List (Key × V)} {g : Gd}, DpKv K F kvs g → kvs.length = g.length
  | _, _, .nil => rfl
  | _, _, .cons _ t => by rw [List.length_cons, List.length_cons, t.length]
theorem inl_iff {a b : Int} : ((Sum.inl a : Key) = Sum.inl b) ↔ a = b := ⟨fun h => by cases h; rfl, fun h => by rw [h]⟩
theorem DpKv.val (k : Int) : ∀ {kvs : List (Key × V)} {g : Gd}, DpKv K F kvs g → (valV kvs (.inl k) = none ∧ gget g k = none) ∨ ∃ v d, valV kvs (.inl k) = some v ∧ gget g k = some d ∧ Dp K F v d
  | _, _, .nil => .inl ⟨rfl, rfl⟩
  | _, _, .cons (k := k') (v := v) (d := d) h t => by
    by_cases e : k' = k
    · refine .inr ⟨v, d, valV_pos (by rw [e]), ?_, h⟩
      unfold gget
      rw [List.find?_cons_of_pos (by simp [e])]; rfl
    · have e1 : ¬ ((Sum.inl k' : Key) = Sum.inl k) := fun z => e (inl_iff.mp z)
      rw [valV_neg e1]
      have e2 : ∀ g : Gd, gget ((k', d) :: g) k = gget g k := fun g => by
        unfold gget
        rw [List.find?_cons_of_neg (by simp [e])]
      rw [e2]
      exact t.val k
theorem DpKv.any (k : Int) : ∀ {kvs : List (Key × V)} {g : Gd}, DpKv K F kvs g → (kvs.any fun p => decide (p.1 = (Sum.inl k : Key))) = g.any fun p => decide (p.1 = k)
  | _, _, .nil => rfl
  | _, _, .cons (k := k') h t => by
    rw [List.any_cons, List.any_cons, t.any k]
    congr 1
    exact decide_eq_decide.mpr inl_iff
theorem DpKv.app {kvs2 : List (Key × V)} {g2 : Gd} (h2 : DpKv K F kvs2 g2) : ∀ {kvs : List (Key × V)} {g : Gd}, DpKv K F kvs g → DpKv K F (kvs ++ kvs2) (g ++ g2)
  | _, _, .nil => h2
  | _, _, .cons h t => .cons h (DpKv.app h2 t)
theorem DpKv.map (k : Int) {v : V} {d : PyData} (hv : Dp K F v d) : ∀ {kvs : List (Key × V)} {g : Gd}, DpKv K F kvs g → DpKv K F (kvs.map fun p => if p.1 = (Sum.inl k : Key) then (p.1, v) else p) (g.map fun p => if p.1 = k then (p.1, d) else p)
  | _, _, .nil => .nil
  | _, _, .cons (k := k') h t => by
    rw [List.map_cons, List.map_cons]
    by_cases e : k' = k
    · rw [if_pos (inl_iff.mpr e), if_pos e]
      exact .cons hv (t.map k hv)
    · rw [if_neg (fun z => e (inl_iff.mp z)), if_neg e]
      exact .cons h (t.map k hv)
theorem DpKv.put (k : Int) {v : V} {d : PyData} (hv : Dp K F v d) {kvs : List (Key × V)} {g : Gd} (h : DpKv K F kvs g) : DpKv K F (putK kvs (.inl k) v) (gput g k d) := by
  unfold putK gput
  rw [h.any k]
  split
  · exact h.map k hv
  · exact DpKv.app (.cons hv .nil) h
end
section
variable {S : Sx} {i : Nat}
theorem GhD.set_fz {K : PySem.W.Frag} {H0 F H : Hp} {Γ : En} {σ : St} {a : Addr} {l : Gd} {d : PyData} {v : V} {j : Nat} (G : GhD K H0 F H Γ σ i a l) (hj : j ≠ i) : GhD K H0 F H (setE j (.fz d) Γ) (σ.set j (some v)) i a l := by
  refine ⟨by rw [List.getElem?_set_ne hj]; exact G.si, by unfold setE; rw [List.getElem?_set_ne hj]; exact G.gi, G.h0, G.f0, G.hv, fun m xs h1 h2 => ?_⟩
  unfold setE at h1
  rw [List.getElem?_set] at h1 h2
  split at h1
  · split at h1 <;> cases h1
  · next e => rw [if_neg e] at h2; exact G.ap m xs h1 h2
theorem GhD.wrt {K : PySem.W.Frag} {F0 H0 F H : Hp} {Γ : En} {σ : St} {a : Addr} {l : Gd} {us : List (Key × V)} (R : StR K F0 H0 F H Γ σ) (G : GhD K H0 F H Γ σ i a l) : SubX a F H F (upd H a (.dK us)) := by
  refine ⟨.refl _, fun b o n e => by rw [upd_ne n]; exact e, fun b o e => ?_, fun b o _ e => e⟩
  rw [upd_ne (fun z => by subst z; rw [G.f0] at e; cases e)]
  exact R.en.fh b o e
end
end
end Bd
namespace Bd
open PySem L2
noncomputable section
section
variable {S : Sx} {i : Nat}
def WD (S : Sx) (i : Nat) (e : Expr) (f : En → Gd → Option (Bool × Gd)) : Prop :=
  ∃ t : TT, (∀ X, S.Ok X → PW X e t) ∧ ∀ Γ σ H0 F H Q a g b g', EnR S.K H0 F H Γ σ → GhD S.K H0 F H Γ σ i a g → f Γ g = some (b, g') →
    (∀ F' H' vs', SubX a F H F' H' → H' a = some (.dK vs') → DpKv S.K F' vs' g' → Q b H') → t σ H Q
theorem WD.t {e : Expr} {f} (h : WD S i e f) : TD S i e f := by
  obtain ⟨t, a1, a2⟩ := h
  exact ⟨t, fun X ok => (a1 X ok).pt, a2⟩
def spK (K : PySem.W.Frag) (n : Nat) (m : List PyData → Option Gd) : L2.Sp := fun vs H Q _ =>
  ∃ F ds g, Same F H ∧ ds.length = n ∧ DpAll K F vs ds ∧ m ds = some g ∧ ∀ a F' H' kvs, Sub F H F' H' → H a = none → F' a = none → H' a = some (.dK kvs) → DpKv K F' kvs g → Q (.ref a) H'
structure FnK (S : Sx) (x : Str) (ps : List Str) (m : List PyData → Option Gd) : Prop where
  ex : ∃ (f : Addr) (fd : FuncData) (j : Nat), FnOk S.P S.w S.K S.mg S.base CX0 j f fd ps (spK S.K ps.length m) ∧ j ≤ S.k ∧ S.mg x = some (.ref f) ∧ PySem.W.keepIn S.K (.ref f) = true ∧ Binds S.K fd ps []
theorem GhD.new {K : PySem.W.Frag} {F0 H0 F H : Hp} {Γ : En} {σ : St} {p : Addr} (R : StR K F0 H0 F H Γ σ) (hi : Γ[i]? = some none) (hp : H p = none) :
    StR K F0 H0 F (upd H p (.dK [])) Γ (σ.set i (some (.ref p))) ∧ GhD K H0 F (upd H p (.dK [])) Γ (σ.set i (some (.ref p))) i p [] := by
  have ln := R.en.ln
  have il : i < Γ.length := (List.getElem?_eq_some_iff.mp hi).1
  have w : Sub F H F (upd H p (.dK [])) := .newO R.en.fh hp
  have R' := R.mono w
  have ne : ∀ {j : Nat} {s : Sl}, Γ[j]? = some (some s) → i ≠ j := fun {j s} h z => by subst z; rw [hi] at h; cases h
  have st : ∀ {j : Nat}, i ≠ j → (σ.set i (some (V.ref p)))[j]? = σ[j]? := fun ne => List.getElem?_set_ne ne
  refine ⟨⟨⟨R'.en.fh, fun j s hj => ?_, fun j zs c h1 h2 => ?_, fun j m zs ws c h1 h2 h3 h4 => ?_, by rw [List.length_set]; exact ln⟩, R'.su⟩, ⟨by rw [List.getElem?_set_self (by omega)], hi, R.su.h.free hp, ?_, ⟨[], upd_same, .nil⟩, fun j zs h1 h2 => ?_⟩⟩
  · rw [st (ne hj)]; exact R'.en.sl j s hj
  · rw [st (ne h1)] at h2; exact R'.en.nw j zs c h1 h2
  · rw [st (ne h1)] at h3; rw [st (ne h2)] at h4; exact R'.en.ds j m zs ws c h1 h2 h3 h4
  · exact R.en.fh.free hp
  · rw [st (ne h1)] at h2
    obtain ⟨v', w1, c, us, e3, _, e4, _⟩ := R.en.sl j _ h1
    rw [h2] at w1; cases w1; cases e3
    rw [hp] at e4; cases e4
end
end
end Bd
namespace Bd
open PySem PySem.Spec PyProof.Rows
section
variable {prog : Program} {w : World} {A : Around} {E : Value → Shared → Prop} {s : Shared}
end
end Bd
namespace Bd
open PySem L2
section
variable {X : Cx}
end
noncomputable section
section
variable {S : Sx} {i : Nat}
theorem DpKv.keys {K : PySem.W.Frag} {F : Hp} : ∀ {kvs : List (Key × V)} {g : Gd}, DpKv K F kvs g → kvs.map (·.1) = (g.map (·.1)).map Sum.inl
  | _, _, .nil => rfl
  | _, _, .cons _ t => by rw [List.map_cons, List.map_cons, List.map_cons, DpKv.keys t]
end
end
end Bd
namespace Bd
open PySem L2
noncomputable section
section
variable {S : Sx} {i : Nat}
end
end
end Bd
namespace Bd
open PySem L2
section
variable {X : Cx}
end
noncomputable section
section
variable {S : Sx}
def sortR (ns : List Int) : List Int := (sortI ns).reverse
theorem sortR_eq {l ns : List Int} (p : l.Perm ns) (h : l.Pairwise (· ≥ ·)) : l = sortR ns := by
  have e := sortI_eq (l := l.reverse) ((List.reverse_perm l).trans p) (by rw [List.pairwise_reverse]; exact h)
  unfold sortR
  rw [← e, List.reverse_reverse]
end
end
end Bd
namespace Bd
open PySem PyProof.Rows
noncomputable section
section
variable {prog : Program} {w : World} {A : Around} {E : Value → Shared → Prop} {s : Shared}
theorem sort_run {vs : List Value} {ns : List Int} (hI : IntsAre vs ns) (h2 : 2 ≤ vs.length) {xs : Array Keyed} (hp : xs.Perm (pairsOf vs)) {Q : Unit × SortSt → Shared → Prop}
    (h : ∀ st', (arrOf st').Perm (pairsOf vs) → failedOf st' = none → SortedTo (arrOf st') (pairsOf vs).size → Q ((), st') s) :
    wpAny (model prog w) A (sortRuns'.run (SortSt.mk' oneType' xs #[] 7 none)) Q E s := by
  have z : wpS (model prog w) A E s sortRuns' (fun _ st' => (arrOf st').Perm (pairsOf vs) ∧ failedOf st' = none ∧ SortedTo (arrOf st') (pairsOf vs).size) (SortSt.mk' oneType' xs #[] 7 none) :=
    wpS_sortRunsL (h0 := hI.intKeys) ⟨hp, rfl, rfl⟩ rfl (by rw [pairsOf_size]; exact h2) fun st' a b c => ⟨a, b, c⟩
  refine wpAny_mono z ?_ fun _ _ e => e
  rintro ⟨u, st'⟩ s' ⟨rfl, a, b, c⟩
  exact h st' a b c
theorem two_more {vs : List Value} {ns : List Int} (hI : IntsAre vs ns) (h2 : 2 ≤ vs.length) : keyKind' vs.toArray = pure oneType' := by
  match vs, hI, h2 with
  | _ :: _ :: _, hI, _ => exact keyKind_ints hI
theorem list_sort_big {a : Addr} {vs : List Value} {ns : List Int} {n : Nat} {P : Fin → Shared → Prop} (ho : s.heap.get? a = some (seqObj "list" vs.toArray n)) (hI : IntsAre vs ns) (h2 : 2 ≤ vs.length) (hz : vs.length ≤ 1000)
    (h : ∀ (out : Array Value) (ns' : List Int), IntsAre out.toList ns' → ns'.Perm ns → ns'.Pairwise (· ≤ ·) → P (.done (.ret .none)) { s with heap := sortedHeap s.heap a vs out }) :
    wpAny (model prog w) A (Builtin.«list.sort» ⟨[.ref a], []⟩) P E s := by
  have hs : vs.toArray.size ≤ sizeLine := by rw [sizeLine_eq, List.size_toArray]; omega
  have hn : ¬ vs.toArray.size < 2 := by rw [List.size_toArray]; omega
  have ha : a < s.heap.objs.size := Heap.lt_size ho
  rw [list_sort_plain]
  refine wpAny_bind (listItems_at ho rfl (wpAny_bind (listUpdate_at ho rfl ?_ hs (Nat.zero_le _))))
  obtain ⟨n1, g1⟩ : ∃ n1, (s.heap.update a (Obj.mapSeq fun _ => #[])).get? a = some (seqObj "list" #[] n1) := ⟨_, get?_update_seq ho (fun _ => #[])⟩
  refine wpAny_bind (seqEpoch_at g1 rfl (wpAny_bind (wpAny_newTuple (hsz := by rw [sizeLine_eq]; simpa using Nat.le_trans hz (by decide)) (wpAny_bind (wpAny_newList (wpAny_holding ?_))))))
  have g2 : (((s.heap.update a (Obj.mapSeq fun _ => #[])).push (seqObj "tuple" vs.toArray 0)).push (seqObj "list" #[] 0)).get? a = some (seqObj "list" #[] n1) := by
    rw [Heap.get?_push_ne _ _ _ (by rw [size_push', Heap.size_update]; exact Nat.ne_of_lt (Nat.lt_succ_of_lt ha)), Heap.get?_push_ne _ _ _ (by rw [Heap.size_update]; exact Nat.ne_of_lt ha)]
    exact g1
  show wpAny (model prog w) A _ P E { s with heap := ((s.heap.update a (Obj.mapSeq fun _ => #[])).push (seqObj "tuple" vs.toArray 0)).push (seqObj "list" #[] 0) }
  dsimp only
  rw [if_neg hn, if_neg hn, two_more hI h2]
  refine wpAny_bind (wpAny_pure (wpAny_bind (sort_run hI h2 (Array.Perm.refl _) fun st' p f o => ?_)))
  dsimp only
  have hz2 : ((arrOf st').map (·.2)).size ≤ sizeLine + 1 := by rw [Array.size_map, p.size_eq, pairsOf_size, sizeLine_eq]; omega
  refine wpAny_bind (seqEpoch_at g2 rfl (wpAny_bind (listUpdate_at g2 rfl ?_ (Nat.zero_le _) hz2)))
  rw [f]
  simp only [bne_self_eq_false, Bool.false_eq_true, if_false]
  obtain ⟨ns', o1, o2, o3⟩ := sorted_out hI p o
  exact wpAny_pure (h _ ns' o1 o2 o3)
theorem list_sort_bigR {a : Addr} {vs : List Value} {ns : List Int} {n : Nat} {P : Fin → Shared → Prop} (ho : s.heap.get? a = some (seqObj "list" vs.toArray n)) (hI : IntsAre vs ns) (h2 : 2 ≤ vs.length) (hz : vs.length ≤ 1000)
    (h : ∀ (out : Array Value) (ns' : List Int), IntsAre out.toList ns' → ns'.Perm ns → ns'.Pairwise (· ≥ ·) → P (.done (.ret .none)) { s with heap := sortedHeap s.heap a vs out }) :
    wpAny (model prog w) A (Builtin.«list.sort» ⟨[.ref a], [(Str.ofString "reverse", .bool true)]⟩) P E s := by
  have hs : vs.toArray.size ≤ sizeLine := by rw [sizeLine_eq, List.size_toArray]; omega
  have hn : ¬ vs.toArray.size < 2 := by rw [List.size_toArray]; omega
  have ha : a < s.heap.objs.size := Heap.lt_size ho
  rw [list_sort_rev]
  refine wpAny_bind (listItems_at ho rfl (wpAny_bind (listUpdate_at ho rfl ?_ hs (Nat.zero_le _))))
  obtain ⟨n1, g1⟩ : ∃ n1, (s.heap.update a (Obj.mapSeq fun _ => #[])).get? a = some (seqObj "list" #[] n1) := ⟨_, get?_update_seq ho (fun _ => #[])⟩
  refine wpAny_bind (seqEpoch_at g1 rfl (wpAny_bind (wpAny_newTuple (hsz := by rw [sizeLine_eq]; simpa using Nat.le_trans hz (by decide)) (wpAny_bind (wpAny_newList (wpAny_holding ?_))))))
  have g2 : (((s.heap.update a (Obj.mapSeq fun _ => #[])).push (seqObj "tuple" vs.toArray 0)).push (seqObj "list" #[] 0)).get? a = some (seqObj "list" #[] n1) := by
    rw [Heap.get?_push_ne _ _ _ (by rw [size_push', Heap.size_update]; exact Nat.ne_of_lt (Nat.lt_succ_of_lt ha)), Heap.get?_push_ne _ _ _ (by rw [Heap.size_update]; exact Nat.ne_of_lt ha)]
    exact g1
  show wpAny (model prog w) A _ P E { s with heap := ((s.heap.update a (Obj.mapSeq fun _ => #[])).push (seqObj "tuple" vs.toArray 0)).push (seqObj "list" #[] 0) }
  dsimp only
  simp only [if_true]
  refine wpAny_bind (wpAny_rule ?_)
  rw [if_neg hn, if_neg hn, two_more hI h2]
  have hst : (vs.toArray.zip vs.toArray).reverse.Perm (pairsOf vs) := Array.perm_iff_toList_perm.mpr (by rw [Array.toList_reverse]; exact List.reverse_perm _)
  refine wpAny_bind (wpAny_pure (wpAny_bind (sort_run hI h2 hst fun st' p f o => ?_)))
  dsimp only
  have hz2 : ((arrOf st').map (·.2)).reverse.size ≤ sizeLine + 1 := by rw [Array.size_reverse, Array.size_map, p.size_eq, pairsOf_size, sizeLine_eq]; omega
  refine wpAny_bind (seqEpoch_at g2 rfl (wpAny_bind (listUpdate_at g2 rfl ?_ (Nat.zero_le _) hz2)))
  rw [f]
  simp only [bne_self_eq_false, Bool.false_eq_true, if_false]
  obtain ⟨ns', o1, o2, o3⟩ := sorted_out_rev hI p o true
  rw [if_pos rfl] at o1
  have o4 : ns'.Pairwise (· ≥ ·) := o3
  exact wpAny_pure (h ((arrOf st').map fun p : Keyed => p.2).reverse ns' o1 o2 o4)
end
end
end Bd
namespace Bd
open PySem L2 PyProof.Rows
noncomputable section
section
variable {prog : Program} {w : World} {A : Around} {E : Value → Shared → Prop} {s : Shared}
theorem sorted_big {l : Addr} {vs : List Value} {ns : List Int} {Q : Value → Shared → Prop} (hl : s.heap.IsList l vs.toArray) (hI : IntsAre vs ns) (h2 : 2 ≤ vs.length) (hz : vs.length ≤ 1000)
    (h : ∀ (out : Array Value) (ns' : List Int), IntsAre out.toList ns' → ns'.Perm ns → ns'.Pairwise (· ≤ ·) → Q (.ref (s.heap.objs.size + 1)) { s with heap := sortedAll s.heap vs out }) :
    wpAny (model prog w) A (call (.builtin "sorted") [.ref l]) Q E s := by
  have hs : vs.length ≤ sizeLine := by rw [sizeLine_eq]; omega
  refine Calls.call_function_entry kind_sorted plain_sorted entry_sorted (args_sorted1 _) ?_
  unfold Builtin.«sorted»
  refine wpAny_bind (m := checkCount "sorted" 1 1 _) (wpAny_pure ?_)
  refine wpAny_bind (collect_list hl ?_ hs)
  refine wpAny_bind (wpAny_newList ?_ (hsz := hs))
  have hsz : ((s.heap.push (seqObj "list" #[] 0)).update s.heap.objs.size (Obj.mapSeq (· ++ vs.toArray))).objs.size = s.heap.objs.size + 1 := by rw [Heap.size_update, size_push']
  have ho := Heap.get?_push_size ((s.heap.push (seqObj "list" #[] 0)).update s.heap.objs.size (Obj.mapSeq (· ++ vs.toArray))) (o := seqObj "list" vs.toArray 0) rfl
  rw [hsz] at ho
  show wpAny _ _ _ _ _ { s with heap := ((s.heap.push (seqObj "list" #[] 0)).update s.heap.objs.size (Obj.mapSeq (· ++ vs.toArray))).push (seqObj "list" vs.toArray 0) }
  rw [hsz]
  refine wpAny_bind (wpAny_holding (wpAny_call_entry slot_list_sort ⟨_, ho, rfl⟩ entry_list_sort (list_sort_big ho hI h2 hz fun out ns' a1 a2 a3 => ⟨_, rfl, ?_⟩) (args_list_sort _)))
  exact wpAny_pure ⟨_, rfl, h out ns' a1 a2 a3⟩
theorem sorted_bigR {l : Addr} {vs : List Value} {ns : List Int} {Q : Value → Shared → Prop} (hl : s.heap.IsList l vs.toArray) (hI : IntsAre vs ns) (h2 : 2 ≤ vs.length) (hz : vs.length ≤ 1000)
    (h : ∀ (out : Array Value) (ns' : List Int), IntsAre out.toList ns' → ns'.Perm ns → ns'.Pairwise (· ≥ ·) → Q (.ref (s.heap.objs.size + 1)) { s with heap := sortedAll s.heap vs out }) :
    wpAny (model prog w) A (call (.builtin "sorted") [.ref l] [(Str.ofString "reverse", .bool true)]) Q E s := by
  have hs : vs.length ≤ sizeLine := by rw [sizeLine_eq]; omega
  refine call_function_entry_kw kind_sorted plain_sorted entry_sorted (args_sorted_rev _ _) ?_
  unfold Builtin.«sorted»
  refine wpAny_bind (m := checkCount "sorted" 1 1 _) (wpAny_pure ?_)
  refine wpAny_bind (collect_list hl ?_ hs)
  refine wpAny_bind (wpAny_newList ?_ (hsz := hs))
  have hsz : ((s.heap.push (seqObj "list" #[] 0)).update s.heap.objs.size (Obj.mapSeq (· ++ vs.toArray))).objs.size = s.heap.objs.size + 1 := by rw [Heap.size_update, size_push']
  have ho := Heap.get?_push_size ((s.heap.push (seqObj "list" #[] 0)).update s.heap.objs.size (Obj.mapSeq (· ++ vs.toArray))) (o := seqObj "list" vs.toArray 0) rfl
  rw [hsz] at ho
  show wpAny _ _ _ _ _ { s with heap := ((s.heap.push (seqObj "list" #[] 0)).update s.heap.objs.size (Obj.mapSeq (· ++ vs.toArray))).push (seqObj "list" vs.toArray 0) }
  rw [hsz]
  refine wpAny_bind (wpAny_holding (wpAny_call_entry_kw slot_list_sort ⟨_, ho, rfl⟩ entry_list_sort (list_sort_bigR ho hI h2 hz fun out ns' a1 a2 a3 => ⟨_, rfl, ?_⟩) (args_list_sort_rev _ _)))
  exact wpAny_pure ⟨_, rfl, h out ns' a1 a2 a3⟩
theorem sorted_any {l : Addr} {vs : List Value} {ns : List Int} {Q : Value → Shared → Prop} (hl : s.heap.IsList l vs.toArray) (hI : IntsAre vs ns) (hz : vs.length ≤ 1000)
    (h : ∀ (out : Array Value) (ns' : List Int), IntsAre out.toList ns' → ns'.Perm ns → ns'.Pairwise (· ≤ ·) → Q (.ref (s.heap.objs.size + 1)) { s with heap := sortedAll s.heap vs out }) :
    wpAny (model prog w) A (call (.builtin "sorted") [.ref l]) Q E s := by
  by_cases c : vs.length < 64
  · exact sorted_ints hl hI c h
  · exact sorted_big hl hI (by omega) hz h
theorem sorted_anyR {l : Addr} {vs : List Value} {ns : List Int} {Q : Value → Shared → Prop} (hl : s.heap.IsList l vs.toArray) (hI : IntsAre vs ns) (hz : vs.length ≤ 1000)
    (h : ∀ (out : Array Value) (ns' : List Int), IntsAre out.toList ns' → ns'.Perm ns → ns'.Pairwise (· ≥ ·) → Q (.ref (s.heap.objs.size + 1)) { s with heap := sortedAll s.heap vs out }) :
    wpAny (model prog w) A (call (.builtin "sorted") [.ref l] [(Str.ofString "reverse", .bool true)]) Q E s := by
  by_cases c : vs.length < 64
  · exact sorted_ints_rev (b := true) hl hI c h
  · exact sorted_bigR hl hI (by omega) hz h
end
section
variable {X : Cx}
def rSortedL (K : PySem.W.Frag) : List V → Hp → VK → Prop := fun vs H Q => ∃ (a : Addr) (ns : List Int), vs = [V.ref a] ∧ SqL K H a (ns.map V.int) ∧ ns.length ≤ 1000 ∧
  ∀ (ns' : List Int) (p : Addr), ns'.Perm ns → ns'.Pairwise (· ≤ ·) → H p = none → Q (.ref p) (upd H p (.lst (ns'.map V.int)))
theorem cr_sortedL : CallR X (.builtin "sorted") (rSortedL X.K) := by
  intro pins s σ H vs us Q I r h
  obtain ⟨a, ns, rfl, hs, hz, q⟩ := h
  obtain ⟨its, rv, hl, _⟩ := I.list hs
  rw [Vals.ref1 r]
  have hi := rv.ints
  refine sorted_any hl.isList hi (by rw [hi.length]; exact hz) fun out ns' h1 h2 h3 => ?_
  obtain ⟨ep, he'⟩ := PyProof.Rows.sortedAll_at s.heap its out
  have hlen : (ns'.map V.int).length ≤ sizeLine := by rw [List.length_map, h2.length_eq, sizeLine_eq]; omega
  exact ⟨.ref _, upd H (s.heap.objs.size + 1) (.lst (ns'.map V.int)), I.laid (t' := s.toks) (fun _ _ => PyProof.Rows.sortedAll_old) (Nat.le_succ _) ⟨hlen, out.toList, ep, vals_of_ints h1, he'⟩, rfl, q ns' _ h2 h3 (I.hok.fresh (Nat.le_succ _))⟩
def srtRowL (K : PySem.W.Frag) (x : V) (H1 : Hp) (Q : VK) : Prop := ∃ (a : Addr) (ns : List Int), x = .ref a ∧ SqL K H1 a (ns.map V.int) ∧ ns.length ≤ 1000 ∧ ∀ (ns' : List Int) (p : Addr), ns'.Perm ns → ns'.Pairwise (· ≥ ·) → H1 p = none → Q (.ref p) (upd H1 p (.lst (ns'.map V.int)))
def srtEndL (K : PySem.W.Frag) (v : V) (Q : VK) : List V → Hp → Prop := fun zs H2 => zs = [.bl true] ∧ srtRowL K v H2 Q
def tSrtRL (K : PySem.W.Frag) (ta : TE) : TE := fun σ H Q => ta σ H fun x H1 => srtEndL K x Q [.bl true] H1
def srtContL (K : PySem.W.Frag) (td : TE) (σ : L2.St) (Q : VK) : List V → Hp → Prop := fun vs H1 => match vs with
  | [v] => tCons td tNil σ H1 (srtEndL K v Q)
  | _ => False
theorem pe_srtRL {e : Expr} {p pos kp bp : Pos} {j} {ta : TE} (hm : X.mg "sorted" = none) (hg : Gl X "sorted") (ha : PE X e ta) (he : starEach [e] X.env = (false, eval e X.env) :: starEach [] X.env := by rfl) :
    PE X (.Call (.Name "sorted" p) [e] [⟨some "reverse", .Constant (.bool true) j bp, kp⟩] pos) (tSrtRL X.K ta) := by
  intro pins s σ H Q I h
  have hd : PE X (.Constant (.bool true) j bp) _ := pe_bl
  refine wpAny_Call_Name_kw (ld_blt (u := .builtin "sorted") I hg hm (by decide +kernel) ?_)
  refine PyProof.Rows.callWith_kw (id := "sorted") (e := e) (rest := []) (thn (pa_cons ha pa_nil he pos pins s σ H (srtContL X.K (tC (.bl true)) σ Q) I h) fun us s1 ⟨vs, H1, I1, r1, q1⟩ => ?_) (by rw [he]; rfl) (by rw [he]; rfl)
  match vs, r1, q1 with
  | [v], .cons rv .nil, q1 =>
    refine thn (pk_cons hd pk_nil pos pins s1 σ H1 (srtEndL X.K v Q) I1 q1) fun ws s2 ⟨zs, H2, I2, r2, q2⟩ => ?_
    match zs, r2, q2 with
    | [d], .cons rd .nil, ⟨ed, a, ns, ev, hs, hz, q⟩ =>
      subst ev
      cases ed
      cases rv
      cases rd
      obtain ⟨its, rvs, hl, _⟩ := I2.list hs
      have hi := rvs.ints
      refine sorted_anyR hl.isList hi (by rw [hi.length]; exact hz) fun out ns' h1 h2 h3 => ?_
      obtain ⟨ep, he'⟩ := PyProof.Rows.sortedAll_at s2.heap its out
      have hlen : (ns'.map V.int).length ≤ sizeLine := by rw [List.length_map, h2.length_eq, sizeLine_eq]; omega
      exact ⟨.ref _, upd H2 (s2.heap.objs.size + 1) (.lst (ns'.map V.int)), I2.laid (t' := s2.toks) (fun _ _ => PyProof.Rows.sortedAll_old) (Nat.le_succ _) ⟨hlen, out.toList, ep, vals_of_ints h1, he'⟩, rfl, q ns' _ h2 h3 (I2.hok.fresh (Nat.le_succ _))⟩
end
section
variable {S : Sx}
def pSortedL : List PyData → Option Sl
  | [.list xs] => (toInts xs).bind fun ns => if ns.length ≤ 1000 then some (.ow ((sortI ns).map PyData.int)) else none
  | _ => none
theorem cs_sortedL : CallS S (.builtin "sorted") pSortedL := by
  refine ⟨rSortedL S.K, fun X ok => ok.K ▸ cr_sortedL, fun F H vs ds Q s fh l hp k => ?_⟩
  unfold pSortedL at hp
  split at hp
  · cases q : toInts ‹List PyData› with
    | none => rw [q] at hp; cases hp
    | some ns =>
      rw [q] at hp
      simp only [Option.bind_some] at hp
      split at hp
      · next hz =>
        cases hp
        obtain ⟨v, rfl, m⟩ := l.one
        obtain ⟨a, us, rfl, q1, q2⟩ := m.list fh
        rw [toInts_eq q] at q2
        rw [q2.ints] at q1
        refine ⟨a, ns, rfl, q1, hz, fun ns' p hp hs hn => ?_⟩
        rw [sortI_eq hp hs]
        exact k _ F _ (.newO fh hn) (SlN.lst fh hn (dpAll_ints _))
      · cases hp
  · cases hp
def vSrtRL (f : En → Option PyData) : En → Option Sl := fun Γ => match f Γ with
  | some (.list xs) => (toInts xs).bind fun ns => if ns.length ≤ 1000 then some (.ow ((sortR ns).map PyData.int)) else none
  | _ => none
theorem se_srtRL {e : Expr} {p pos kp bp : Pos} {j} {f} (ha : SL S e f) (hm : S.mg "sorted" = none) (hg : glB S.sc "sorted" = true := by kernel_rfl) (he : ∀ X : Cx, starEach [e] X.env = (false, eval e X.env) :: starEach [] X.env := by intro _; rfl) :
    SE S (.Call (.Name "sorted" p) [e] [⟨some "reverse", .Constant (.bool true) j bp, kp⟩] pos) (vSrtRL f) := by
  obtain ⟨t, a1, a2⟩ := ha
  refine ⟨tSrtRL S.K t, fun X ok => ok.K ▸ pe_srtRL (by rw [ok.mg]; exact hm) (ok.gl hg) (a1 X ok) (he X), fun Γ σ H0 F H Q s E hf k => ?_⟩
  unfold vSrtRL at hf
  split at hf
  · next xs q1 =>
    cases q3 : toInts xs with
    | none => rw [q3] at hf; cases hf
    | some ns =>
      rw [q3, Option.bind_some] at hf
      split at hf
      · next hz =>
        cases hf
        refine a2 Γ σ H0 F H _ _ E q1 fun v F1 H1 u1 l1 => ?_
        obtain ⟨a, vs, rfl, q4, q5⟩ := l1.list u1.fh
        rw [toInts_eq q3] at q5
        rw [q5.ints] at q4
        refine ⟨rfl, a, ns, rfl, q4, hz, fun ns' p hp hs hn => ?_⟩
        rw [sortR_eq hp hs]
        refine k _ F1 _ (u1.trans (.newO u1.fh hn)) ?_
        have z := SlN.lst (K := S.K) u1.fh hn (dpAll_ints (sortR ns))
        exact ⟨z.1, fun xs b e1 e2 => u1.h.free (z.2 xs b e1 e2)⟩
      · cases hf
  · cases hf
def bLend (i : Nat) (f : En → Option Bool) : En → Option Bool := fun Γ => f (frzE i Γ)
theorem st_lend (i : Nat) {e : Expr} {f} (h : ST S e f) : ST S e (bLend i f) := by
  obtain ⟨t, a1, a2⟩ := h
  refine ⟨t, a1, fun Γ σ H0 F H Q b E hf k => ?_⟩
  obtain ⟨F', E', sF⟩ := E.freeze i
  exact a2 (frzE i Γ) σ H0 F' H Q b E' hf fun F1 H1 u => k F H1 ⟨.refl _, u.h, fun b o e => u.h b o (E.fh b o e), fun _ _ _ e => e⟩
end
end
end Bd
namespace K29
open PySem L2 Bd Com
noncomputable section
section
variable {P : Program} {w : World} {K : PySem.W.Frag} {mg : Str → Option Value} {base : Heap}
def top (i : Nat) : Stmt := PySem.Challenge.pw_bandorder_k29_merged_and_added.main.body.getD i (.Pass ⟨0, 0, 0, 0⟩)
abbrev s_by_columns : Stmt := top 1
theorem sc_by_columns : FnScope ["shape", "number", "tall"] ["shape"] (defScope s_by_columns) := ⟨rfl, rfl, rfl, by decide +kernel, rfl, by decide +kernel, by decide +kernel⟩
theorem b_by_columns (hm_len : mg "len" = none) (hm_max : mg "max" = none) (hm_range : mg "range" = none)  : ∃ T, SSs (sxOf P w K mg base ["shape", "number", "tall"] (defScope s_by_columns) 0) (defBody s_by_columns) T g_by_columns := ⟨_,
  (ss_cons (ss_ret (se_lc [("tall", 2)] (siv_range2 sv_int.l ((se_bin os_add ((se_maxd (sl_var 0) sv_int hm_max)).l sv_int.l)).l hm_range).l (by kernel_rfl) (sg_name 2) sc_nil ((se_callB cs_len hm_len (sal_cons ((se_lc [("number", 1)] (si_list (sl_var 0)) (by kernel_rfl) (sg_name 1) (sc_one (st_cmp os_ge (sl_var 1) (sl_var 2) (nomark _))) (sv_var 1) (by decide))).l sal_nil))).v (by decide)))
  ss_nil)⟩
abbrev s_number_at : Stmt := top 2
theorem sc_number_at : FnScope ["shape", "place"] ["shape", "place"] (defScope s_number_at) := ⟨rfl, rfl, rfl, by decide +kernel, rfl, by decide +kernel, by decide +kernel⟩
def g_number_at : En → Option Out :=
  (oSeq (oRet (vIf (bOf (b2 pLt (gSl 1) (dOf (callD pLen (aCons (gSl 0) aNil))))) (b2 pIx (gSl 0) (gSl 1)) (fzOf (kC (.int 0)))))
  oNil)
def m_number_at : List PyData → Option Sl := mirror 2 g_number_at
theorem b_number_at (hm_len : mg "len" = none)  : ∃ T, SSs (sxOf P w K mg base ["shape", "place"] (defScope s_number_at) 0) (defBody s_number_at) T g_number_at := ⟨_,
  (ss_cons (ss_ret (se_if (st_cmp os_lt (sl_var 1) ((se_callB cs_len hm_len (sal_cons (sl_var 0) sal_nil))).l (nomark _)) (se_ix (sl_var 0) (sl_var 1)) sv_int.en))
  ss_nil)⟩
abbrev s_places_of_both : Stmt := top 3
theorem sc_places_of_both : FnScope ["one", "other"] ["one", "other"] (defScope s_places_of_both) := ⟨rfl, rfl, rfl, by decide +kernel, rfl, by decide +kernel, by decide +kernel⟩
theorem b_places_of_both (hm_len : mg "len" = none) (hm_list : mg "list" = none) (hm_max : mg "max" = none) (hm_range : mg "range" = none)  : ∃ T, SSs (sxOf P w K mg base ["one", "other"] (defScope s_places_of_both) 0) (defBody s_places_of_both) T g_places_of_both := ⟨_,
  (ss_cons (ss_ret (se_listRange ((se_callB cs_max2 hm_max (sal_cons ((se_callB cs_len hm_len (sal_cons (sl_var 0) sal_nil))).l (sal_cons ((se_callB cs_len hm_len (sal_cons (sl_var 1) sal_nil))).l sal_nil)))).l hm_list hm_range))
  ss_nil)⟩
abbrev s_is_beneath : Stmt := top 4
theorem sc_is_beneath : FnScope ["one", "other", "place"] ["one", "other"] (defScope s_is_beneath) := ⟨rfl, rfl, rfl, by decide +kernel, rfl, by decide +kernel, by decide +kernel⟩
theorem b_is_beneath (hm_all : mg "all" = none) (hm_sum : mg "sum" = none) (G_places_of_both : FnD (sxOf P w K mg base ["one", "other", "place"] (defScope s_is_beneath) 1) "places_of_both" ["one", "other"] m_places_of_both) : ∃ T, SSs (sxOf P w K mg base ["one", "other", "place"] (defScope s_is_beneath) 1) (defBody s_is_beneath) T g_is_beneath := ⟨_,
  (ss_cons (ss_ret (se_callB cs_all hm_all (sal_cons ((se_lc [("place", 2)] (si_list ((se_call G_places_of_both (sav_cons (sv_var 0) (sav_cons (sv_var 1) sav_nil)) (hz := (alen_cons (alen_cons alen_nil))))).l) (by kernel_rfl) (sg_name 2) sc_nil ((se_cmp os_le ((se_callB cs_sum hm_sum (sal_cons ((se_slice (sl_var 0) so_none (so_some ((se_bin os_add (sl_var 2) sv_int.l)).l))).l sal_nil))).l ((se_callB cs_sum hm_sum (sal_cons ((se_slice (sl_var 1) so_none (so_some ((se_bin os_add (sl_var 2) sv_int.l)).l))).l sal_nil))).l (nomark _))).v (by decide))).l sal_nil)))
  ss_nil)⟩
abbrev s_merged : Stmt := top 5
theorem sc_merged : FnScope ["one", "other"] ["one", "other"] (defScope s_merged) := ⟨rfl, rfl, rfl, by decide +kernel, rfl, by decide +kernel, by decide +kernel⟩
def g_merged : En → Option Out :=
  (oSeq (oRet (vSrtRL (dOf (b2 pAdd (gSl 0) (gSl 1)))))
  oNil)
def m_merged : List PyData → Option Sl := mirror 2 g_merged
theorem b_merged (hm_sorted : mg "sorted" = none)  : ∃ T, SSs (sxOf P w K mg base ["one", "other"] (defScope s_merged) 0) (defBody s_merged) T g_merged := ⟨_,
  (ss_cons (ss_ret (se_srtRL ((se_bin os_add (sl_var 0) (sl_var 1))).l hm_sorted))
  ss_nil)⟩
abbrev s_added : Stmt := top 6
theorem sc_added : FnScope ["one", "other", "place"] ["one", "other"] (defScope s_added) := ⟨rfl, rfl, rfl, by decide +kernel, rfl, by decide +kernel, by decide +kernel⟩
def g_added : En → Option Out :=
  (oSeq (oRet (vLc (iLst (dOf (callD m_places_of_both (aCons (gFz 0) (aCons (gFz 1) aNil))))) (gNm 2) bYes (dOf (b2 pAdd (dOf (callD m_number_at (aCons (gFz 0) (aCons (gFz 2) aNil)))) (dOf (callD m_number_at (aCons (gFz 1) (aCons (gFz 2) aNil)))))) [2]))
  oNil)
def m_added : List PyData → Option Sl := mirror 3 g_added
theorem b_added  (G_places_of_both : FnD (sxOf P w K mg base ["one", "other", "place"] (defScope s_added) 1) "places_of_both" ["one", "other"] m_places_of_both) (G_number_at : FnD (sxOf P w K mg base ["one", "other", "place"] (defScope s_added) 1) "number_at" ["shape", "place"] m_number_at) : ∃ T, SSs (sxOf P w K mg base ["one", "other", "place"] (defScope s_added) 1) (defBody s_added) T g_added := ⟨_,
  (ss_cons (ss_ret (se_lc [("place", 2)] (si_list ((se_call G_places_of_both (sav_cons (sv_var 0) (sav_cons (sv_var 1) sav_nil)) (hz := (alen_cons (alen_cons alen_nil))))).l) (by kernel_rfl) (sg_name 2) sc_nil ((se_bin os_add ((se_call (FnD.blk _ G_number_at) (sav_cons (sv_var 0) (sav_cons (sv_var 2) sav_nil)) (hz := (alen_cons (alen_cons alen_nil))))).l ((se_call (FnD.blk _ G_number_at) (sav_cons (sv_var 1) (sav_cons (sv_var 2) sav_nil)) (hz := (alen_cons (alen_cons alen_nil))))).l)).v (by decide)))
  ss_nil)⟩
abbrev s_law_cell : Stmt := top 8
theorem sc_law_cell : FnScope ["_law_script", "_law_at"] ["_law_script", "_law_at"] (defScope s_law_cell) := ⟨rfl, rfl, rfl, by decide +kernel, rfl, by decide +kernel, by decide +kernel⟩
theorem b_law_cell (hm_len : mg "len" = none)  : ∃ T, SSs (sxOf P w K mg base ["_law_script", "_law_at"] (defScope s_law_cell) 0) (defBody s_law_cell) T g_law_cell := ⟨_,
  (ss_cons (ss_if (st_cmp os_lt (sl_var 1) ((se_callB cs_len hm_len (sal_cons (sl_var 0) sal_nil))).l (nomark _))
  (ss_cons (ss_ret (se_ix (sl_var 0) (sl_var 1)))
  ss_nil)
  ss_nil)
  (ss_cons (ss_ret sv_int.en)
  ss_nil))⟩
abbrev s_law_stock : Stmt := top 9
theorem sc_law_stock : FnScope ["_law_script", "_law_at", "_law_cell_here"] ["_law_script", "_law_at"] (defScope s_law_stock) := ⟨rfl, rfl, rfl, by decide +kernel, rfl, by decide +kernel, by decide +kernel⟩
theorem b_law_stock (hm_abs : mg "abs" = none) (G_law_cell : FnD (sxOf P w K mg base ["_law_script", "_law_at", "_law_cell_here"] (defScope s_law_stock) 1) "_law_cell" ["_law_script", "_law_at"] m_law_cell) : ∃ T, SSs (sxOf P w K mg base ["_law_script", "_law_at", "_law_cell_here"] (defScope s_law_stock) 1) (defBody s_law_stock) T g_law_stock := ⟨_,
  (ss_cons (ss_set 2 (((se_call G_law_cell (sav_cons (sv_var 0) (sav_cons (sv_var 1) sav_nil)) (hz := (alen_cons (alen_cons alen_nil))))).v).en)
  (ss_cons (ss_if (st_cmp os_ge ((se_callB cs_abs hm_abs (sal_cons (sl_var 2) sal_nil))).l ((se_bin os_pow sv_int.l sv_int.l)).l (nomark _))
  (ss_cons (ss_ret (se_lst (sav_cons ((se_callB cs_abs hm_abs (sal_cons (sl_var 2) sal_nil))).v (sav_cons sv_int sav_nil))))
  ss_nil)
  ss_nil)
  (ss_cons (ss_ret (se_lst (sav_cons ((se_bin os_add ((se_bin os_mul ((se_bin os_mod (sl_var 2) ((se_bin os_pow sv_int.l sv_int.l)).l)).l sv_int.l)).l ((se_bin os_mod (sl_var 1) sv_int.l)).l)).v (sav_cons sv_int sav_nil))))
  ss_nil)))⟩
abbrev s_law_take : Stmt := top 10
theorem sc_law_take : FnScope ["_law_stock_here", "_law_many", "_law_drawn", "_law_one"] ["_law_stock_here", "_law_many"] (defScope s_law_take) := ⟨rfl, rfl, rfl, by decide +kernel, rfl, by decide +kernel, by decide +kernel⟩
theorem bG_law_take   : SMs (sxOf P w K mg base ["_law_stock_here", "_law_many", "_law_drawn", "_law_one"] (defScope s_law_take) 0) 0 (defBody s_law_take) gG_law_take :=
  (sm_cons (sm_if (tx_cmp os_eq (ex_gix sv_int.l) (SV.x sv_int) (nomark _))
  (sm_cons (sm_set 2 (EXV.e (EX.v (ex_bin os_mod (ex_gix sv_int.l) (SV.x (sv_var 1))))))
  (sm_cons (sm_gset sv_int.l (EX.v (ex_bin os_divW (ex_gix sv_int.l) (SV.x (sv_var 1)))))
  (sm_cons (sm_lift (ss_retv 2) (by decide))
  sm_nil)))
  sm_nil)
  (sm_cons (sm_set 3 (EXV.e (EX.v (ex_bin os_add (EX.v (ex_bin os_mul (EX.v (ex_bin os_add (ex_gix sv_int.l) (SV.x sv_int))) (SV.x sv_int))) (EX.v (ex_bin os_mul (ex_gix sv_int.l) (SV.x sv_int)))))))
  (sm_cons (sm_set 3 (EXV.e (EX.v (ex_bin os_mod (EX.v (ex_bin os_mul (SV.x ((se_bin os_mod (sl_var 3) sv_int.l)).v) (EX.v (ex_bin os_add (EX.v (ex_bin os_add (SV.x ((se_bin os_mod ((se_bin os_divW (sl_var 3) sv_int.l)).l sv_int.l)).v) (EX.v (ex_bin os_mul (SV.x sv_int) (ex_gix sv_int.l))))) (SV.x sv_int))))) (SV.x sv_int)))))
  (sm_cons (sm_gaug 1 sv_int.l (SV.x sv_int))
  (sm_cons (sm_ret (ex_bin os_mod (EX.v (ex_bin os_divW (EX.v (ex_bin os_mod (EX.v (ex_bin os_mul (SV.x (sv_var 3)) (EX.v (ex_bin os_add (SV.x ((se_bin os_divW (sl_var 3) sv_int.l)).v) (ex_gix sv_int.l))))) (SV.x sv_int))) (SV.x sv_int))) (SV.x (sv_var 1))))
  sm_nil)))))
abbrev s_law_shape : Stmt := top 11
theorem sc_law_shape : FnScope ["_law_stock_here", "_law_most", "_law_top", "_law_many", "_law_here", "_law_row", "_law_k"] ["_law_stock_here", "_law_most", "_law_top"] (defScope s_law_shape) := ⟨rfl, rfl, rfl, by decide +kernel, rfl, by decide +kernel, by decide +kernel⟩
theorem bG_law_shape (hm_range : mg "range" = none) (GG_law_take : FnG (sxOf P w K mg base ["_law_stock_here", "_law_most", "_law_top", "_law_many", "_law_here", "_law_row", "_law_k"] (defScope s_law_shape) 1) "_law_take" ["_law_stock_here", "_law_many"] mG_law_take) : SMs (sxOf P w K mg base ["_law_stock_here", "_law_most", "_law_top", "_law_many", "_law_here", "_law_row", "_law_k"] (defScope s_law_shape) 1) 0 (defBody s_law_shape) gG_law_shape :=
  (sm_cons (sm_set 3 (EXV.e (EX.v (ex_call GG_law_take (ax_gh (ax_val (SV.x ((se_bin os_add (sl_var 1) sv_int.l)).v) ax_nil))))))
  (sm_cons (sm_set 4 (EXV.e (EX.v (ex_bin os_add (SV.x sv_int) (EX.v (ex_call GG_law_take (ax_gh (ax_val (SV.x (sv_var 2)) ax_nil))))))))
  (sm_cons (sm_lift (ss_set 5 (se_lst sav_nil)) (by decide))
  (sm_cons (sm_for (SIV.x (siv_range1 (sl_var 3) hm_range)) (sg_name 6) gk_name
  (sm_cons (sm_lift (ss_append 5 (sv_var 4)) (by decide))
  (sm_cons (sm_if (tx_cmp os_eq (EX.v (ex_call GG_law_take (ax_gh (ax_val (SV.x sv_int) ax_nil)))) (SV.x sv_int) (nomark _))
  (sm_cons (sm_set 4 (EXV.e (EX.v (ex_bin os_add (SV.x sv_int) (EX.v (ex_call GG_law_take (ax_gh (ax_val (SV.x (sv_var 4)) ax_nil))))))))
  sm_nil)
  sm_nil)
  sm_nil)))
  (sm_cons (sm_lift (ss_retv 5) (by decide))
  sm_nil)))))
abbrev s_law_added : Stmt := top 12
theorem sc_law_added : FnScope ["_law_one", "_law_other", "_law_made", "_law_place"] ["_law_one", "_law_other"] (defScope s_law_added) := ⟨rfl, rfl, rfl, by decide +kernel, rfl, by decide +kernel, by decide +kernel⟩
def g_law_added_b1 : En → Option Out :=
  (oSeq (oApp 2 (dOf (b2 pAdd (dOf (callD pSum (aCons (dOf (dSl (gSl 0) (oInt (gSl 3)) (oInt (dOf (b2 pAdd (gSl 3) (kC (.int 1))))))) aNil))) (dOf (callD pSum (aCons (dOf (dSl (gSl 1) (oInt (gSl 3)) (oInt (dOf (b2 pAdd (gSl 3) (kC (.int 1))))))) aNil))))))
  oNil)
def g_law_added : En → Option Out :=
  (oSeq (oSet 2 (dLst aNil))
  (oSeq (oFor (iR1 (dOf (callD pMax2 (aCons (dOf (callD pLen (aCons (gSl 0) aNil))) (aCons (dOf (callD pLen (aCons (gSl 1) aNil))) aNil))))) (gNm 3)
  g_law_added_b1)
  (oSeq (oRetV 2)
  oNil)))
def m_law_added : List PyData → Option Sl := mirror 4 g_law_added
theorem b_law_added (hm_len : mg "len" = none) (hm_max : mg "max" = none) (hm_range : mg "range" = none) (hm_sum : mg "sum" = none)  : ∃ T, SSs (sxOf P w K mg base ["_law_one", "_law_other", "_law_made", "_law_place"] (defScope s_law_added) 0) (defBody s_law_added) T g_law_added := ⟨_,
  (ss_cons (ss_set 2 (se_lst sav_nil))
  (ss_cons (ss_for (siv_range1 ((se_callB cs_max2 hm_max (sal_cons ((se_callB cs_len hm_len (sal_cons (sl_var 0) sal_nil))).l (sal_cons ((se_callB cs_len hm_len (sal_cons (sl_var 1) sal_nil))).l sal_nil)))).l hm_range) (sg_name 3) gk_name
  (ss_cons (ss_append 2 ((se_bin os_add ((se_callB cs_sum hm_sum (sal_cons ((se_slice (sl_var 0) (so_some (sl_var 3)) (so_some ((se_bin os_add (sl_var 3) sv_int.l)).l))).l sal_nil))).l ((se_callB cs_sum hm_sum (sal_cons ((se_slice (sl_var 1) (so_some (sl_var 3)) (so_some ((se_bin os_add (sl_var 3) sv_int.l)).l))).l sal_nil))).l)).v)
  ss_nil))
  (ss_cons (ss_retv 2)
  ss_nil)))⟩
abbrev s_law_beneath : Stmt := top 13
theorem sc_law_beneath : FnScope ["_law_one", "_law_other", "_law_many"] ["_law_one", "_law_other"] (defScope s_law_beneath) := ⟨rfl, rfl, rfl, by decide +kernel, rfl, by decide +kernel, by decide +kernel⟩
theorem b_law_beneath (hm_len : mg "len" = none) (hm_range : mg "range" = none) (hm_sum : mg "sum" = none)  : ∃ T, SSs (sxOf P w K mg base ["_law_one", "_law_other", "_law_many"] (defScope s_law_beneath) 0) (defBody s_law_beneath) T g_law_beneath := ⟨_,
  (ss_cons (ss_for (siv_range1 ((se_bin os_add ((se_bin os_add ((se_callB cs_len hm_len (sal_cons (sl_var 0) sal_nil))).l ((se_callB cs_len hm_len (sal_cons (sl_var 1) sal_nil))).l)).l sv_int.l)).l hm_range) (sg_name 2) gk_name
  (ss_cons (ss_if (st_cmp os_gt ((se_callB cs_sum hm_sum (sal_cons ((se_slice (sl_var 0) so_none (so_some (sl_var 2)))).l sal_nil))).l ((se_callB cs_sum hm_sum (sal_cons ((se_slice (sl_var 1) so_none (so_some (sl_var 2)))).l sal_nil))).l (nomark _))
  (ss_cons (ss_ret sv_bl.en)
  ss_nil)
  ss_nil)
  ss_nil))
  (ss_cons (ss_ret sv_bl.en)
  ss_nil))⟩
abbrev s_law_so : Stmt := top 14
theorem sc_law_so : FnScope ["_law_found", "_law_due"] ["_law_found", "_law_due"] (defScope s_law_so) := ⟨rfl, rfl, rfl, by decide +kernel, rfl, by decide +kernel, by decide +kernel⟩
theorem b_law_so (hm_bool : mg "bool" = none) (hm_isinstance : mg "isinstance" = none)  : ∃ T, SSs (sxOf P w K mg base ["_law_found", "_law_due"] (defScope s_law_so) 0) (defBody s_law_so) T g_law_so := ⟨_,
  (ss_cons (ss_ret (se_and (se_isi (T := "bool") (sl_var 0) hm_isinstance hm_bool) (se_one (se_cmp os_eq (sl_var 0) (sl_var 1) (nomark _)))))
  ss_nil)⟩
abbrev s_law : Stmt := top 15
theorem sc_law : FnScope ["_law_script", "_law_stock_here", "_law_way", "_law_most", "_law_top", "_law_one", "_law_other", "_law_handed", "_law_both", "_law_sums", "_law_due"] ["_law_script"] (defScope s_law) := ⟨rfl, rfl, rfl, by decide +kernel, rfl, by decide +kernel, by decide +kernel⟩
def g_law : En → Option Out :=
  (gGh 1 (callD m_law_stock (aCons (gFz 0) (aCons (kC (.int 0)) aNil)))
  (mSeq (mSet 2 (xFz (xV (xCallG 2 mG_law_take (gaG (gaV (xPV (kC (.int 8))) gaNil))))))
  (mSeq (mLft (oUnp (dOf (dTup (aCons (kC (.int 9)) (aCons (kC (.int 12)) aNil)))) (gTpl 2 (gsCons (gNm 3) (gsCons (gNm 4) gsNil)))))
  (mSeq (mLft (oIf (bOf (b2 pGt (gSl 2) (kC (.int 5))))
  (oSeq (oUnp (dOf (b2 pIx (dOf (dLst (aCons (dOf (dTup (aCons (kC (.int 20)) (aCons (kC (.int 50)) aNil)))) (aCons (dOf (dTup (aCons (kC (.int 40)) (aCons (kC (.int 100)) aNil)))) aNil)))) (dOf (b2 pSub (gSl 2) (kC (.int 6)))))) (gTpl 2 (gsCons (gNm 3) (gsCons (gNm 4) gsNil))))
  oNil)
  oNil))
  (mSeq (mSet 5 (xFz (xV (xCallG 3 mG_law_shape (gaG (gaV (xPV (gFz 3)) (gaV (xPV (gFz 4)) gaNil)))))))
  (mSeq (mLft (oSet 6 (fzOf (dOf (vCallT 3 mG_law_shape (callD m_law_stock (aCons (gFz 0) (aCons (kC (.int 1)) aNil))) (aCons (gFz 3) (aCons (gFz 4) aNil)))))))
  (mSeq (mLft (oSet 7 (fzOf (dOf (dLst (aCons (dOf (callD pListOf (aCons (gSl 5) aNil))) (aCons (dOf (callD pListOf (aCons (gSl 6) aNil))) aNil)))))))
  (mSeq (mLft (oSet 8 (callD m_merged (aCons (dOf (b2 pIx (gSl 7) (kC (.int 0)))) (aCons (dOf (b2 pIx (gSl 7) (kC (.int 1)))) aNil)))))
  (mSeq (mLft (oSet 9 (callD m_added (aCons (dOf (b2 pIx (gSl 7) (kC (.int 0)))) (aCons (dOf (b2 pIx (gSl 7) (kC (.int 1)))) aNil)))))
  (mSeq (mLft (oSet 10 (fzOf (dOf (dLst (aCons (dOf (vRev (dOf (callD pSortedL (aCons (dOf (b2 pAdd (gSl 5) (gSl 6))) aNil))))) (aCons (dOf (callD m_law_added (aCons (gFz 5) (aCons (gFz 6) aNil)))) aNil)))))))
  (mSeq (mLft (oIf (bOr (bLend 9 (bLend 8 (bOf (b2 pNe (dOf (dLst (aCons (gFz 8) (aCons (gFz 9) aNil)))) (gSl 10))))) (bOf (b2 pNe (gSl 7) (dOf (dLst (aCons (gFz 5) (aCons (gFz 6) aNil)))))))
  (oSeq (oRet (fzOf (kC (.bool false))))
  oNil)
  oNil))
  (mSeq (mLft (oIf (bNot (bTru (dOf (callD m_law_so (aCons (dOf (callD m_is_beneath (aCons (dOf (b2 pIx (gSl 7) (kC (.int 0)))) (aCons (dOf (b2 pIx (gSl 7) (kC (.int 1)))) aNil)))) (aCons (dOf (callD m_law_beneath (aCons (gFz 5) (aCons (gFz 6) aNil)))) aNil))))))
  (oSeq (oRet (fzOf (kC (.bool false))))
  oNil)
  oNil))
  (mSeq (mLft (oIf (bOr (bNot (bTru (dOf (callD m_law_so (aCons (dOf (callD m_is_beneath (aCons (dOf (b2 pIx (gSl 7) (kC (.int 1)))) (aCons (dOf (b2 pIx (gSl 7) (kC (.int 0)))) aNil)))) (aCons (dOf (callD m_law_beneath (aCons (gFz 6) (aCons (gFz 5) aNil)))) aNil)))))) (bOf (b2 pNe (gSl 7) (dOf (dLst (aCons (gFz 5) (aCons (gFz 6) aNil)))))))
  (oSeq (oRet (fzOf (kC (.bool false))))
  oNil)
  oNil))
  (mSeq (mLft (oIf (bAnd (bOf (b2 pLt (gSl 2) (kC (.int 7)))) (bOf (b2 pNe (dOf (callD m_by_columns (aCons (dOf (callD pListOf (aCons (gSl 8) aNil))) aNil))) (dOf (callD m_law_added (aCons (dOf (callD m_by_columns (aCons (gFz 5) aNil))) (aCons (dOf (callD m_by_columns (aCons (gFz 6) aNil))) aNil)))))))
  (oSeq (oRet (fzOf (kC (.bool false))))
  oNil)
  oNil))
  (mSeq (mLft (oIf (bAnd (bOf (b2 pLt (gSl 2) (kC (.int 7)))) (bOf (b2 pNe (dOf (callD m_by_columns (aCons (dOf (callD pListOf (aCons (gSl 9) aNil))) aNil))) (dOf (vRev (dOf (callD pSortedL (aCons (dOf (b2 pAdd (dOf (callD m_by_columns (aCons (gFz 5) aNil))) (dOf (callD m_by_columns (aCons (gFz 6) aNil))))) aNil))))))))
  (oSeq (oRet (fzOf (kC (.bool false))))
  oNil)
  oNil))
  (mSeq (mLft (oApp 8 (kC (.int 1))))
  (mSeq (mLft (oApp 9 (kC (.int 1))))
  (mSeq (mLft (oRet (vAnd (b2 pEq (gSl 7) (dOf (dLst (aCons (gFz 5) (aCons (gFz 6) aNil))))) (b2 pEq (dOf (dLst (aCons (dOf (callD m_merged (aCons (gFz 5) (aCons (gFz 6) aNil)))) (aCons (dOf (callD m_added (aCons (gFz 5) (aCons (gFz 6) aNil)))) aNil)))) (gSl 10)))))
  mNil))))))))))))))))))
def m_law : List PyData → Option Sl := mirror 11 g_law
theorem b_law (hm_list : mg "list" = none) (hm_sorted : mg "sorted" = none) (G_law_stock : FnD (sxOf P w K mg base ["_law_script", "_law_stock_here", "_law_way", "_law_most", "_law_top", "_law_one", "_law_other", "_law_handed", "_law_both", "_law_sums", "_law_due"] (defScope s_law) 2) "_law_stock" ["_law_script", "_law_at"] m_law_stock) (G_added : FnD (sxOf P w K mg base ["_law_script", "_law_stock_here", "_law_way", "_law_most", "_law_top", "_law_one", "_law_other", "_law_handed", "_law_both", "_law_sums", "_law_due"] (defScope s_law) 2) "added" ["one", "other"] m_added) (G_merged : FnD (sxOf P w K mg base ["_law_script", "_law_stock_here", "_law_way", "_law_most", "_law_top", "_law_one", "_law_other", "_law_handed", "_law_both", "_law_sums", "_law_due"] (defScope s_law) 2) "merged" ["one", "other"] m_merged) (G_by_columns : FnD (sxOf P w K mg base ["_law_script", "_law_stock_here", "_law_way", "_law_most", "_law_top", "_law_one", "_law_other", "_law_handed", "_law_both", "_law_sums", "_law_due"] (defScope s_law) 2) "by_columns" ["shape"] m_by_columns) (G_law_added : FnD (sxOf P w K mg base ["_law_script", "_law_stock_here", "_law_way", "_law_most", "_law_top", "_law_one", "_law_other", "_law_handed", "_law_both", "_law_sums", "_law_due"] (defScope s_law) 2) "_law_added" ["_law_one", "_law_other"] m_law_added) (G_law_so : FnD (sxOf P w K mg base ["_law_script", "_law_stock_here", "_law_way", "_law_most", "_law_top", "_law_one", "_law_other", "_law_handed", "_law_both", "_law_sums", "_law_due"] (defScope s_law) 2) "_law_so" ["_law_found", "_law_due"] m_law_so) (G_law_beneath : FnD (sxOf P w K mg base ["_law_script", "_law_stock_here", "_law_way", "_law_most", "_law_top", "_law_one", "_law_other", "_law_handed", "_law_both", "_law_sums", "_law_due"] (defScope s_law) 2) "_law_beneath" ["_law_one", "_law_other"] m_law_beneath) (G_is_beneath : FnD (sxOf P w K mg base ["_law_script", "_law_stock_here", "_law_way", "_law_most", "_law_top", "_law_one", "_law_other", "_law_handed", "_law_both", "_law_sums", "_law_due"] (defScope s_law) 2) "is_beneath" ["one", "other"] m_is_beneath) (GG_law_shape : FnG (sxOf P w K mg base ["_law_script", "_law_stock_here", "_law_way", "_law_most", "_law_top", "_law_one", "_law_other", "_law_handed", "_law_both", "_law_sums", "_law_due"] (defScope s_law) 2) "_law_shape" ["_law_stock_here", "_law_most", "_law_top"] mG_law_shape) (GG_law_take : FnG (sxOf P w K mg base ["_law_script", "_law_stock_here", "_law_way", "_law_most", "_law_top", "_law_one", "_law_other", "_law_handed", "_law_both", "_law_sums", "_law_due"] (defScope s_law) 2) "_law_take" ["_law_stock_here", "_law_many"] mG_law_take) : ∃ T, SSs (sxOf P w K mg base ["_law_script", "_law_stock_here", "_law_way", "_law_most", "_law_top", "_law_one", "_law_other", "_law_handed", "_law_both", "_law_sums", "_law_due"] (defScope s_law) 2) (defBody s_law) T g_law := ⟨_,
  (ss_ghost 1 (se_call G_law_stock (sav_cons (sv_var 0) (sav_cons sv_int sav_nil)) (hz := (alen_cons (alen_cons alen_nil))))
  (sm_cons (sm_set 2 (EXV.e (EX.v (ex_call GG_law_take (ax_gh (ax_val (SV.x sv_int) ax_nil))))))
  (sm_cons (sm_lift (ss_unpC ((se_tup (sav_cons sv_int (sav_cons sv_int sav_nil)))).v (sg_tup (n := 2) (sgs_cons (sg_name 3) (sgs_cons (sg_name 4) sgs_nil))) (gk_tup (gk_cons gk_name (gk_cons gk_name gk_nil)))) (by decide))
  (sm_cons (sm_lift (ss_if (st_cmp os_gt (sl_var 2) sv_int.l (nomark _))
  (ss_cons (ss_unp ((se_ix ((se_lst (sav_cons ((se_tup (sav_cons sv_int (sav_cons sv_int sav_nil)))).v (sav_cons ((se_tup (sav_cons sv_int (sav_cons sv_int sav_nil)))).v sav_nil)))).l ((se_bin os_sub (sl_var 2) sv_int.l)).l)).v (sg_tup (n := 2) (sgs_cons (sg_name 3) (sgs_cons (sg_name 4) sgs_nil))) (gk_tup (gk_cons gk_name (gk_cons gk_name gk_nil))))
  ss_nil)
  ss_nil) (by decide))
  (sm_cons (sm_set 5 (EXV.e (EX.v (ex_call GG_law_shape (ax_gh (ax_val (SV.x (sv_var 3)) (ax_val (SV.x (sv_var 4)) ax_nil)))))))
  (sm_cons (sm_lift (ss_set 6 (((se_callT GG_law_shape (se_call G_law_stock (sav_cons (sv_var 0) (sav_cons sv_int sav_nil)) (hz := (alen_cons (alen_cons alen_nil)))) (sav_cons (sv_var 3) (sav_cons (sv_var 4) sav_nil)))).v).en) (by decide))
  (sm_cons (sm_lift (ss_set 7 (((se_lst (sav_cons ((se_callTy cs_list hm_list (sal_cons (sl_var 5) sal_nil))).v (sav_cons ((se_callTy cs_list hm_list (sal_cons (sl_var 6) sal_nil))).v sav_nil)))).v).en) (by decide))
  (sm_cons (sm_lift (ss_set 8 (se_call G_merged (sav_cons ((se_ix (sl_var 7) sv_int.l)).v (sav_cons ((se_ix (sl_var 7) sv_int.l)).v sav_nil)) (hz := (alen_cons (alen_cons alen_nil))))) (by decide))
  (sm_cons (sm_lift (ss_set 9 (se_call G_added (sav_cons ((se_ix (sl_var 7) sv_int.l)).v (sav_cons ((se_ix (sl_var 7) sv_int.l)).v sav_nil)) (hz := (alen_cons (alen_cons alen_nil))))) (by decide))
  (sm_cons (sm_lift (ss_set 10 (((se_lst (sav_cons ((se_rev ((se_callB cs_sortedL hm_sorted (sal_cons ((se_bin os_add (sl_var 5) (sl_var 6))).l sal_nil))).l)).v (sav_cons ((se_call G_law_added (sav_cons (sv_var 5) (sav_cons (sv_var 6) sav_nil)) (hz := (alen_cons (alen_cons alen_nil))))).v sav_nil)))).v).en) (by decide))
  (sm_cons (sm_lift (ss_if (SW.t (sw_or (st_lend 9 (st_lend 8 (st_cmp os_ne ((se_lst (sav_cons (sv_var 8) (sav_cons (sv_var 9) sav_nil)))).l (sl_var 10) (nomark _)))) (sw_or1 (st_cmp os_ne (sl_var 7) ((se_lst (sav_cons (sv_var 5) (sav_cons (sv_var 6) sav_nil)))).l (nomark _)))))
  (ss_cons (ss_ret sv_bl.en)
  ss_nil)
  ss_nil) (by decide))
  (sm_cons (sm_lift (ss_if (st_not (st_truth ((se_call G_law_so (sav_cons ((se_call G_is_beneath (sav_cons ((se_ix (sl_var 7) sv_int.l)).v (sav_cons ((se_ix (sl_var 7) sv_int.l)).v sav_nil)) (hz := (alen_cons (alen_cons alen_nil))))).v (sav_cons ((se_call G_law_beneath (sav_cons (sv_var 5) (sav_cons (sv_var 6) sav_nil)) (hz := (alen_cons (alen_cons alen_nil))))).v sav_nil)) (hz := (alen_cons (alen_cons alen_nil))))).l))
  (ss_cons (ss_ret sv_bl.en)
  ss_nil)
  ss_nil) (by decide))
  (sm_cons (sm_lift (ss_if (SW.t (sw_or (st_not (st_truth ((se_call G_law_so (sav_cons ((se_call G_is_beneath (sav_cons ((se_ix (sl_var 7) sv_int.l)).v (sav_cons ((se_ix (sl_var 7) sv_int.l)).v sav_nil)) (hz := (alen_cons (alen_cons alen_nil))))).v (sav_cons ((se_call G_law_beneath (sav_cons (sv_var 6) (sav_cons (sv_var 5) sav_nil)) (hz := (alen_cons (alen_cons alen_nil))))).v sav_nil)) (hz := (alen_cons (alen_cons alen_nil))))).l)) (sw_or1 (st_cmp os_ne (sl_var 7) ((se_lst (sav_cons (sv_var 5) (sav_cons (sv_var 6) sav_nil)))).l (nomark _)))))
  (ss_cons (ss_ret sv_bl.en)
  ss_nil)
  ss_nil) (by decide))
  (sm_cons (sm_lift (ss_if (SW.t (sw_and (st_cmp os_lt (sl_var 2) sv_int.l (nomark _)) (sw_and1 (st_cmp os_ne ((se_call G_by_columns (sav_cons ((se_callTy cs_list hm_list (sal_cons (sl_var 8) sal_nil))).v sav_nil) (hz := (alen_cons alen_nil)))).l ((se_call G_law_added (sav_cons ((se_call G_by_columns (sav_cons (sv_var 5) sav_nil) (hz := (alen_cons alen_nil)))).v (sav_cons ((se_call G_by_columns (sav_cons (sv_var 6) sav_nil) (hz := (alen_cons alen_nil)))).v sav_nil)) (hz := (alen_cons (alen_cons alen_nil))))).l (nomark _)))))
  (ss_cons (ss_ret sv_bl.en)
  ss_nil)
  ss_nil) (by decide))
  (sm_cons (sm_lift (ss_if (SW.t (sw_and (st_cmp os_lt (sl_var 2) sv_int.l (nomark _)) (sw_and1 (st_cmp os_ne ((se_call G_by_columns (sav_cons ((se_callTy cs_list hm_list (sal_cons (sl_var 9) sal_nil))).v sav_nil) (hz := (alen_cons alen_nil)))).l ((se_rev ((se_callB cs_sortedL hm_sorted (sal_cons ((se_bin os_add ((se_call G_by_columns (sav_cons (sv_var 5) sav_nil) (hz := (alen_cons alen_nil)))).l ((se_call G_by_columns (sav_cons (sv_var 6) sav_nil) (hz := (alen_cons alen_nil)))).l)).l sal_nil))).l)).l (nomark _)))))
  (ss_cons (ss_ret sv_bl.en)
  ss_nil)
  ss_nil) (by decide))
  (sm_cons (sm_lift (ss_append 8 sv_int) (by decide))
  (sm_cons (sm_lift (ss_append 9 sv_int) (by decide))
  (sm_cons (sm_lift (ss_ret (se_and (se_cmp os_eq (sl_var 7) ((se_lst (sav_cons (sv_var 5) (sav_cons (sv_var 6) sav_nil)))).l (nomark _)) (se_one (se_cmp os_eq ((se_lst (sav_cons ((se_call G_merged (sav_cons (sv_var 5) (sav_cons (sv_var 6) sav_nil)) (hz := (alen_cons (alen_cons alen_nil))))).v (sav_cons ((se_call G_added (sav_cons (sv_var 5) (sav_cons (sv_var 6) sav_nil)) (hz := (alen_cons (alen_cons alen_nil))))).v sav_nil)))).l (sl_var 10) (nomark _))))) (by decide))
  sm_nil))))))))))))))))))⟩
end
end
end K29
namespace K29
open PySem L2 Bd Com
noncomputable section
theorem getD_at {α : Type} {l : List α} {d : α} {k : Nat} (h : k < l.length) : l[k]? = some (l.getD k d) := by
  rw [List.getD_eq_getElem?_getD, List.getElem?_eq_getElem h]; rfl
def addI (a b : List Int) : List Int := (List.range (max a.length b.length)).map fun (i : Nat) => a.getD i 0 + b.getD i 0
theorem addI_get (a b : List Int) (i : Nat) : (addI a b).getD i 0 = a.getD i 0 + b.getD i 0 := by
  unfold addI
  by_cases h : i < max a.length b.length
  · rw [List.getD_eq_getElem?_getD, List.getElem?_map, List.getElem?_range h]; rfl
  · rw [getD_out (by simp; omega), getD_out (l := a) (by omega), getD_out (l := b) (by omega)]; rfl
theorem addI_eq {a b c : List Int} (ha : IsShp a) (hb : IsShp b) (hc : IsShp c) (h : ∀ i, c.getD i 0 = a.getD i 0 + b.getD i 0) : c = addI a b := by
  have ll : c.length = max a.length b.length := by
    have key : ∀ i, i < c.length ↔ i < max a.length b.length := fun i => by
      rw [hc.getD_pos, h]
      have x1 := ha.getD_pos i
      have x2 := hb.getD_pos i
      have x3 := ha.getD_nn i
      have x4 := hb.getD_nn i
      omega
    have k1 := key c.length
    have k2 := key (max a.length b.length)
    omega
  apply List.ext_getElem?
  intro i
  by_cases hi : i < c.length
  · have e1 := getD_at (d := (0 : Int)) hi
    have e2 := getD_at (l := addI a b) (d := (0 : Int)) (k := i) (by unfold addI; simp; omega)
    rw [e1, e2, addI_get, h]
  · rw [List.getElem?_eq_none (by omega), List.getElem?_eq_none (by unfold addI; simp; omega)]
theorem sortR_perm (l : List Int) : (sortR l).Perm l := (List.reverse_perm _).trans (sortI_perm l)
theorem sortR_pw (l : List Int) : (sortR l).Pairwise (· ≥ ·) := by
  unfold sortR
  rw [List.pairwise_reverse]
  exact sortI_sorted l
theorem sortR_shp {a b : List Int} (ha : IsShp a) (hb : IsShp b) : IsShp (sortR (a ++ b)) := ⟨sortR_pw _, fun x hx => by
  rcases List.mem_append.mp ((sortR_perm _).mem_iff.mp hx) with q | q
  · exact ha.2 x q
  · exact hb.2 x q⟩
theorem cut_one (a : List Int) (k : Nat) : cutD (nums a) (some (k : Int)) (some ((k : Int) + 1)) = nums ((a.drop k).take 1) := by
  unfold cutD
  have ln : (nums a).length = a.length := List.length_map ..
  rw [ln, HT.sIx_nat, show (k : Int) + 1 = ((k + 1 : Nat) : Int) by omega, HT.sIx_nat]
  unfold nums
  rw [← List.map_drop, ← List.map_take]
  congr 1
  by_cases h : k < a.length
  · rw [Nat.min_eq_left (by omega), Nat.min_eq_left (by omega), show k + 1 - k = 1 by omega]
  · rw [List.drop_of_length_le (l := a) (i := min k a.length) (by omega), List.drop_of_length_le (l := a) (i := k) (by omega)]; simp
theorem sum_one (a : List Int) (k : Nat) : ((a.drop k).take 1).sum = a.getD k 0 := by
  by_cases h : k < a.length
  · rw [List.drop_eq_getElem_cons h, List.take_succ_cons, List.take_zero, List.sum_cons, List.sum_nil, List.getD_eq_getElem?_getD, List.getElem?_eq_getElem h]
    simp
  · rw [List.drop_of_length_le (by omega), getD_out (by omega)]; rfl
theorem ladd_spec (a b : List Int) (ha : a.length ≤ 100) (hb : b.length ≤ 100) : m_law_added [.list (nums a), .list (nums b)] = some (.ow (nums (addI a b))) := by
  have la : (nums a).length = a.length := List.length_map ..
  have lb : (nums b).length = b.length := List.length_map ..
  have c0 : (0 : Nat) ≤ cap := Nat.zero_le _
  have mx : (if (b.length : Int) > (a.length : Int) then (b.length : Int) else (a.length : Int)) = ((max a.length b.length : Nat) : Int) := by split <;> omega
  generalize hn : max a.length b.length = n at mx
  have it : ∀ y2, iR1 (dOf (callD pMax2 (aCons (dOf (callD pLen (aCons (gSl 0) aNil))) (aCons (dOf (callD pLen (aCons (gSl 1) aNil))) aNil)))) [some (.fz (.list (nums a))), some (.fz (.list (nums b))), y2, none] = some ((List.range n).map fun (k : Nat) => PyData.int (k : Int)) := fun y2 => iR1_nat (by
    generalize nums a = A at la
    generalize nums b = B at lb
    simp only [List.map_cons, List.map_nil, List.length_cons, List.length_nil, List.replicate, List.cons_append, List.nil_append, List.getElem?_cons_zero, List.getElem?_cons_succ, List.set_cons_succ, List.set_cons_zero, Nat.reduceSub, Nat.zero_add, Nat.reduceAdd, Option.map_some, Option.map_none, Option.bind_some, if_true, List.length_map, List.length_range, e_setE0, e_setES, e_dOf, e_fzOf, e_fz, e_ow, e_gSl0, e_gSlS, e_gFz0, e_gFzS, e_kC, e_aNil, e_aCons, e_dLst, e_dTup, e_b2, e_pI, e_pAddI, e_pAddL, e_callD, e_bOf, e_bNot, e_bTru, e_truB, e_bAnd, e_bOr, e_vAnd, e_bYes, e_pLenL, e_pLenT, e_pAbs, e_pListOf, e_pIxL, e_pIxT, e_vIsi, e_iLst, e_iEnm, e_gNm, e_oNil, e_oSeq, e_oSet, e_oRet, e_oIf, e_oFor, e_oFrz, e_vLc, e_frz0w, e_frz0f, e_frzS, e_wipeN, e_wipeC, e_oRetV, e_oApp, e_oExt, e_iOwn, e_iOwnE, e_gTpl2, e_pEqI, e_pNeI, e_pNeB, e_pEqB, e_vChain, e_vNeg, e_vRev, e_oInt, e_dSl, e_vNot, e_vOr, e_vLc2, e_isiL, e_isiI, e_isiB, e_isBB, e_oPar, e_oAug, e_oRevS, e_vIf, e_gGh, e_vRepL, e_pInt1B, e_oAugIx, e_mUnp, e_mPar2, e_mPar3, e_xTup, e_xLst, e_allN, e_allC, e_mDrp2, e_gTpl3, e_oSwap, e_vCallT, e_xCallO, e_mIns, e_mSetIx, e_vLend, e_flatO, e_flatFB, e_flatFI, e_isB, e_isNotBB, e_oUnp, e_iZp, e_oSetIxM, e_oIns, e_oWhile, e_xPV, e_xP, e_xPB, e_xPI, e_xV, e_xFz, e_x2, e_x2N, e_xB, e_xGix, e_mNil, e_mSeq, e_mIf, e_mRet, e_mSet, e_mGset, e_mGaug, e_mLft, e_mFor, e_mApp, e_gaNil, e_gaV, e_gaG, e_xCallG, Nat.reduceLT, Nat.reduceLeDiff, la, lb, e_pMax2, mx]) (by omega)
  obtain ⟨Γ', lp, y3, rfl⟩ := forD_range (g := gNm 3) (body := g_law_added_b1) (n := n) (emb := fun (k : Nat) => PyData.int (k : Int))
    (fun j Γ => ∃ y3, Γ = [some (.fz (.list (nums a))), some (.fz (.list (nums b))), some (.ow (nums ((List.range j).map fun (i : Nat) => a.getD i 0 + b.getD i 0))), y3])
    (fun k Γ hk hp => by
      obtain ⟨y3, rfl⟩ := hp
      refine ⟨[some (.fz (.list (nums a))), some (.fz (.list (nums b))), some (.ow (nums ((List.range (k + 1)).map fun (i : Nat) => a.getD i 0 + b.getD i 0))), some (.fz (.int (k : Int)))], ?_, _, rfl⟩
      have e1 := cut_one a k
      have e2 := cut_one b k
      have s1 : pSum [.list (nums ((a.drop k).take 1))] = some (.fz (.int (a.getD k 0))) := by rw [e_pSum, sum_one]
      have s2 : pSum [.list (nums ((b.drop k).take 1))] = some (.fz (.int (b.getD k 0))) := by rw [e_pSum, sum_one]
      have ap : nums ((List.range k).map fun (i : Nat) => a.getD i 0 + b.getD i 0) ++ [.int (a.getD k 0 + b.getD k 0)] = nums ((List.range (k + 1)).map fun (i : Nat) => a.getD i 0 + b.getD i 0) := by
        rw [List.range_succ, List.map_append]; unfold nums; rw [List.map_append]; rfl
      have cl : (nums ((List.range k).map fun (i : Nat) => a.getD i 0 + b.getD i 0)).length < cap := by unfold nums; rw [List.length_map, List.length_map, List.length_range, cap_eq]; omega
      unfold g_law_added_b1
      generalize nums ((List.range (k + 1)).map fun (i : Nat) => a.getD i 0 + b.getD i 0) = D2 at ap
      generalize nums ((List.range k).map fun (i : Nat) => a.getD i 0 + b.getD i 0) = D1 at ap cl
      generalize nums ((a.drop k).take 1) = A1 at e1 s1
      generalize nums ((b.drop k).take 1) = B1 at e2 s2
      generalize a.getD k 0 = u at s1 ap
      generalize b.getD k 0 = v at s2 ap
      generalize nums a = A at e1
      generalize nums b = B at e2
      simp only [List.map_cons, List.map_nil, List.length_cons, List.length_nil, List.replicate, List.cons_append, List.nil_append, List.getElem?_cons_zero, List.getElem?_cons_succ, List.set_cons_succ, List.set_cons_zero, Nat.reduceSub, Nat.zero_add, Nat.reduceAdd, Option.map_some, Option.map_none, Option.bind_some, if_true, List.length_map, List.length_range, e_setE0, e_setES, e_dOf, e_fzOf, e_fz, e_ow, e_gSl0, e_gSlS, e_gFz0, e_gFzS, e_kC, e_aNil, e_aCons, e_dLst, e_dTup, e_b2, e_pI, e_pAddI, e_pAddL, e_callD, e_bOf, e_bNot, e_bTru, e_truB, e_bAnd, e_bOr, e_vAnd, e_bYes, e_pLenL, e_pLenT, e_pAbs, e_pListOf, e_pIxL, e_pIxT, e_vIsi, e_iLst, e_iEnm, e_gNm, e_oNil, e_oSeq, e_oSet, e_oRet, e_oIf, e_oFor, e_oFrz, e_vLc, e_frz0w, e_frz0f, e_frzS, e_wipeN, e_wipeC, e_oRetV, e_oApp, e_oExt, e_iOwn, e_iOwnE, e_gTpl2, e_pEqI, e_pNeI, e_pNeB, e_pEqB, e_vChain, e_vNeg, e_vRev, e_oInt, e_dSl, e_vNot, e_vOr, e_vLc2, e_isiL, e_isiI, e_isiB, e_isBB, e_oPar, e_oAug, e_oRevS, e_vIf, e_gGh, e_vRepL, e_pInt1B, e_oAugIx, e_mUnp, e_mPar2, e_mPar3, e_xTup, e_xLst, e_allN, e_allC, e_mDrp2, e_gTpl3, e_oSwap, e_vCallT, e_xCallO, e_mIns, e_mSetIx, e_vLend, e_flatO, e_flatFB, e_flatFI, e_isB, e_isNotBB, e_oUnp, e_iZp, e_oSetIxM, e_oIns, e_oWhile, e_xPV, e_xP, e_xPB, e_xPI, e_xV, e_xFz, e_x2, e_x2N, e_xB, e_xGix, e_mNil, e_mSeq, e_mIf, e_mRet, e_mSet, e_mGset, e_mGaug, e_mLft, e_mFor, e_mApp, e_gaNil, e_gaV, e_gaG, e_xCallG, Nat.reduceLT, Nat.reduceLeDiff, e1, e2, s1, s2, cl, ap]) [some (.fz (.list (nums a))), some (.fz (.list (nums b))), some (.ow (nums [])), none] ⟨none, rfl⟩
  have n0 : nums [] = [] := rfl
  rw [n0] at lp
  have fin : nums ((List.range n).map fun (i : Nat) => a.getD i 0 + b.getD i 0) = nums (addI a b) := by unfold addI; rw [hn]
  rw [fin] at lp
  unfold m_law_added mirror g_law_added startE
  generalize nums (addI a b) = R at lp
  generalize g_law_added_b1 = b1 at lp
  generalize nums a = A at it lp
  generalize nums b = B at it lp
  simp only [List.map_cons, List.map_nil, List.length_cons, List.length_nil, List.replicate, List.cons_append, List.nil_append, List.getElem?_cons_zero, List.getElem?_cons_succ, List.set_cons_succ, List.set_cons_zero, Nat.reduceSub, Nat.zero_add, Nat.reduceAdd, Option.map_some, Option.map_none, Option.bind_some, if_true, List.length_map, List.length_range, e_setE0, e_setES, e_dOf, e_fzOf, e_fz, e_ow, e_gSl0, e_gSlS, e_gFz0, e_gFzS, e_kC, e_aNil, e_aCons, e_dLst, e_dTup, e_b2, e_pI, e_pAddI, e_pAddL, e_callD, e_bOf, e_bNot, e_bTru, e_truB, e_bAnd, e_bOr, e_vAnd, e_bYes, e_pLenL, e_pLenT, e_pAbs, e_pListOf, e_pIxL, e_pIxT, e_vIsi, e_iLst, e_iEnm, e_gNm, e_oNil, e_oSeq, e_oSet, e_oRet, e_oIf, e_oFor, e_oFrz, e_vLc, e_frz0w, e_frz0f, e_frzS, e_wipeN, e_wipeC, e_oRetV, e_oApp, e_oExt, e_iOwn, e_iOwnE, e_gTpl2, e_pEqI, e_pNeI, e_pNeB, e_pEqB, e_vChain, e_vNeg, e_vRev, e_oInt, e_dSl, e_vNot, e_vOr, e_vLc2, e_isiL, e_isiI, e_isiB, e_isBB, e_oPar, e_oAug, e_oRevS, e_vIf, e_gGh, e_vRepL, e_pInt1B, e_oAugIx, e_mUnp, e_mPar2, e_mPar3, e_xTup, e_xLst, e_allN, e_allC, e_mDrp2, e_gTpl3, e_oSwap, e_vCallT, e_xCallO, e_mIns, e_mSetIx, e_vLend, e_flatO, e_flatFB, e_flatFI, e_isB, e_isNotBB, e_oUnp, e_iZp, e_oSetIxM, e_oIns, e_oWhile, e_xPV, e_xP, e_xPB, e_xPI, e_xV, e_xFz, e_x2, e_x2N, e_xB, e_xGix, e_mNil, e_mSeq, e_mIf, e_mRet, e_mSet, e_mGset, e_mGaug, e_mLft, e_mFor, e_mApp, e_gaNil, e_gaV, e_gaG, e_xCallG, Nat.reduceLT, Nat.reduceLeDiff, c0, it, lp]
theorem numat_spec (a : List Int) (k : Nat) : m_number_at [.list (nums a), .int (k : Int)] = some (.fz (.int (a.getD k 0))) := by
  have la : (nums a).length = a.length := List.length_map ..
  unfold m_number_at mirror g_number_at startE
  by_cases h : k < a.length
  · have d : decide ((k : Int) < (a.length : Int)) = true := decide_eq_true (by omega)
    have at1 : atI (nums a) (k : Int) = some (.int (a.getD k 0)) := atI_ints (by omega) (by rw [Int.toNat_natCast, List.getD_eq_getElem?_getD, List.getElem?_eq_getElem h]; rfl)
    generalize a.getD k 0 = u at at1
    generalize nums a = A at la at1
    simp only [List.map_cons, List.map_nil, List.length_cons, List.length_nil, List.replicate, List.cons_append, List.nil_append, List.getElem?_cons_zero, List.getElem?_cons_succ, List.set_cons_succ, List.set_cons_zero, Nat.reduceSub, Nat.zero_add, Nat.reduceAdd, Option.map_some, Option.map_none, Option.bind_some, if_true, List.length_map, List.length_range, e_setE0, e_setES, e_dOf, e_fzOf, e_fz, e_ow, e_gSl0, e_gSlS, e_gFz0, e_gFzS, e_kC, e_aNil, e_aCons, e_dLst, e_dTup, e_b2, e_pI, e_pAddI, e_pAddL, e_callD, e_bOf, e_bNot, e_bTru, e_truB, e_bAnd, e_bOr, e_vAnd, e_bYes, e_pLenL, e_pLenT, e_pAbs, e_pListOf, e_pIxL, e_pIxT, e_vIsi, e_iLst, e_iEnm, e_gNm, e_oNil, e_oSeq, e_oSet, e_oRet, e_oIf, e_oFor, e_oFrz, e_vLc, e_frz0w, e_frz0f, e_frzS, e_wipeN, e_wipeC, e_oRetV, e_oApp, e_oExt, e_iOwn, e_iOwnE, e_gTpl2, e_pEqI, e_pNeI, e_pNeB, e_pEqB, e_vChain, e_vNeg, e_vRev, e_oInt, e_dSl, e_vNot, e_vOr, e_vLc2, e_isiL, e_isiI, e_isiB, e_isBB, e_oPar, e_oAug, e_oRevS, e_vIf, e_gGh, e_vRepL, e_pInt1B, e_oAugIx, e_mUnp, e_mPar2, e_mPar3, e_xTup, e_xLst, e_allN, e_allC, e_mDrp2, e_gTpl3, e_oSwap, e_vCallT, e_xCallO, e_mIns, e_mSetIx, e_vLend, e_flatO, e_flatFB, e_flatFI, e_isB, e_isNotBB, e_oUnp, e_iZp, e_oSetIxM, e_oIns, e_oWhile, e_xPV, e_xP, e_xPB, e_xPI, e_xV, e_xFz, e_x2, e_x2N, e_xB, e_xGix, e_mNil, e_mSeq, e_mIf, e_mRet, e_mSet, e_mGset, e_mGaug, e_mLft, e_mFor, e_mApp, e_gaNil, e_gaV, e_gaG, e_xCallG, Nat.reduceLT, Nat.reduceLeDiff, la, d, at1]
  · have d : decide ((k : Int) < (a.length : Int)) = false := decide_eq_false (by omega)
    rw [getD_out (by omega)]
    generalize nums a = A at la
    simp only [List.map_cons, List.map_nil, List.length_cons, List.length_nil, List.replicate, List.cons_append, List.nil_append, List.getElem?_cons_zero, List.getElem?_cons_succ, List.set_cons_succ, List.set_cons_zero, Nat.reduceSub, Nat.zero_add, Nat.reduceAdd, Option.map_some, Option.map_none, Option.bind_some, if_true, List.length_map, List.length_range, e_setE0, e_setES, e_dOf, e_fzOf, e_fz, e_ow, e_gSl0, e_gSlS, e_gFz0, e_gFzS, e_kC, e_aNil, e_aCons, e_dLst, e_dTup, e_b2, e_pI, e_pAddI, e_pAddL, e_callD, e_bOf, e_bNot, e_bTru, e_truB, e_bAnd, e_bOr, e_vAnd, e_bYes, e_pLenL, e_pLenT, e_pAbs, e_pListOf, e_pIxL, e_pIxT, e_vIsi, e_iLst, e_iEnm, e_gNm, e_oNil, e_oSeq, e_oSet, e_oRet, e_oIf, e_oFor, e_oFrz, e_vLc, e_frz0w, e_frz0f, e_frzS, e_wipeN, e_wipeC, e_oRetV, e_oApp, e_oExt, e_iOwn, e_iOwnE, e_gTpl2, e_pEqI, e_pNeI, e_pNeB, e_pEqB, e_vChain, e_vNeg, e_vRev, e_oInt, e_dSl, e_vNot, e_vOr, e_vLc2, e_isiL, e_isiI, e_isiB, e_isBB, e_oPar, e_oAug, e_oRevS, e_vIf, e_gGh, e_vRepL, e_pInt1B, e_oAugIx, e_mUnp, e_mPar2, e_mPar3, e_xTup, e_xLst, e_allN, e_allC, e_mDrp2, e_gTpl3, e_oSwap, e_vCallT, e_xCallO, e_mIns, e_mSetIx, e_vLend, e_flatO, e_flatFB, e_flatFI, e_isB, e_isNotBB, e_oUnp, e_iZp, e_oSetIxM, e_oIns, e_oWhile, e_xPV, e_xP, e_xPB, e_xPI, e_xV, e_xFz, e_x2, e_x2N, e_xB, e_xGix, e_mNil, e_mSeq, e_mIf, e_mRet, e_mSet, e_mGset, e_mGaug, e_mLft, e_mFor, e_mApp, e_gaNil, e_gaV, e_gaG, e_xCallG, Nat.reduceLT, Nat.reduceLeDiff, la, d]
theorem added_spec (a b : List Int) (ha : a.length ≤ 100) (hb : b.length ≤ 100) : m_added [.list (nums a), .list (nums b)] = some (.ow (nums (addI a b))) := by
  have la : (nums a).length = a.length := List.length_map ..
  have lb : (nums b).length = b.length := List.length_map ..
  have pl := places_spec (nums a) (nums b) (by omega) (by omega)
  rw [la, lb] at pl
  have cl : (nums (ups (max a.length b.length))).length < cap := by unfold nums; rw [List.length_map, ups_len, cap_eq]; omega
  have lc : lcD (gNm 2) bYes (dOf (b2 pAdd (dOf (callD m_number_at (aCons (gFz 0) (aCons (gFz 2) aNil)))) (dOf (callD m_number_at (aCons (gFz 1) (aCons (gFz 2) aNil)))))) [some (.fz (.list (nums a))), some (.fz (.list (nums b))), none] (nums (ups (max a.length b.length))) = some (nums (addI a b)) := by
    have key : ∀ (fe : En → Option PyData) (Γ : En), (∀ k ∈ List.range (max a.length b.length), (gNm 2 (.int ((k : Nat) : Int)) Γ).bind fe = some (.int (a.getD k 0 + b.getD k 0))) → lcD (gNm 2) bYes fe Γ (nums (ups (max a.length b.length))) = some (nums (addI a b)) := fun fe Γ hk => by
      unfold addI ups nums
      rw [List.map_map, List.map_map]
      exact lcD_map _ _ _ hk
    refine key _ _ fun k hk => ?_
    have n1 := numat_spec a k
    have n2 := numat_spec b k
    generalize m_number_at = mn at n1 n2
    generalize a.getD k 0 = u at n1
    generalize b.getD k 0 = v at n2
    generalize nums a = A at n1
    generalize nums b = B at n2
    simp only [List.map_cons, List.map_nil, List.length_cons, List.length_nil, List.replicate, List.cons_append, List.nil_append, List.getElem?_cons_zero, List.getElem?_cons_succ, List.set_cons_succ, List.set_cons_zero, Nat.reduceSub, Nat.zero_add, Nat.reduceAdd, Option.map_some, Option.map_none, Option.bind_some, if_true, List.length_map, List.length_range, e_setE0, e_setES, e_dOf, e_fzOf, e_fz, e_ow, e_gSl0, e_gSlS, e_gFz0, e_gFzS, e_kC, e_aNil, e_aCons, e_dLst, e_dTup, e_b2, e_pI, e_pAddI, e_pAddL, e_callD, e_bOf, e_bNot, e_bTru, e_truB, e_bAnd, e_bOr, e_vAnd, e_bYes, e_pLenL, e_pLenT, e_pAbs, e_pListOf, e_pIxL, e_pIxT, e_vIsi, e_iLst, e_iEnm, e_gNm, e_oNil, e_oSeq, e_oSet, e_oRet, e_oIf, e_oFor, e_oFrz, e_vLc, e_frz0w, e_frz0f, e_frzS, e_wipeN, e_wipeC, e_oRetV, e_oApp, e_oExt, e_iOwn, e_iOwnE, e_gTpl2, e_pEqI, e_pNeI, e_pNeB, e_pEqB, e_vChain, e_vNeg, e_vRev, e_oInt, e_dSl, e_vNot, e_vOr, e_vLc2, e_isiL, e_isiI, e_isiB, e_isBB, e_oPar, e_oAug, e_oRevS, e_vIf, e_gGh, e_vRepL, e_pInt1B, e_oAugIx, e_mUnp, e_mPar2, e_mPar3, e_xTup, e_xLst, e_allN, e_allC, e_mDrp2, e_gTpl3, e_oSwap, e_vCallT, e_xCallO, e_mIns, e_mSetIx, e_vLend, e_flatO, e_flatFB, e_flatFI, e_isB, e_isNotBB, e_oUnp, e_iZp, e_oSetIxM, e_oIns, e_oWhile, e_xPV, e_xP, e_xPB, e_xPI, e_xV, e_xFz, e_x2, e_x2N, e_xB, e_xGix, e_mNil, e_mSeq, e_mIf, e_mRet, e_mSet, e_mGset, e_mGaug, e_mLft, e_mFor, e_mApp, e_gaNil, e_gaV, e_gaG, e_xCallG, Nat.reduceLT, Nat.reduceLeDiff, n1, n2]
  unfold m_added mirror g_added startE
  generalize m_places_of_both = mp at pl
  generalize nums (ups (max a.length b.length)) = U at pl lc cl
  generalize nums (addI a b) = R at lc
  generalize nums a = A at pl lc
  generalize nums b = B at pl lc
  simp only [List.map_cons, List.map_nil, List.length_cons, List.length_nil, List.replicate, List.cons_append, List.nil_append, List.getElem?_cons_zero, List.getElem?_cons_succ, List.set_cons_succ, List.set_cons_zero, Nat.reduceSub, Nat.zero_add, Nat.reduceAdd, Option.map_some, Option.map_none, Option.bind_some, if_true, List.length_map, List.length_range, e_setE0, e_setES, e_dOf, e_fzOf, e_fz, e_ow, e_gSl0, e_gSlS, e_gFz0, e_gFzS, e_kC, e_aNil, e_aCons, e_dLst, e_dTup, e_b2, e_pI, e_pAddI, e_pAddL, e_callD, e_bOf, e_bNot, e_bTru, e_truB, e_bAnd, e_bOr, e_vAnd, e_bYes, e_pLenL, e_pLenT, e_pAbs, e_pListOf, e_pIxL, e_pIxT, e_vIsi, e_iLst, e_iEnm, e_gNm, e_oNil, e_oSeq, e_oSet, e_oRet, e_oIf, e_oFor, e_oFrz, e_vLc, e_frz0w, e_frz0f, e_frzS, e_wipeN, e_wipeC, e_oRetV, e_oApp, e_oExt, e_iOwn, e_iOwnE, e_gTpl2, e_pEqI, e_pNeI, e_pNeB, e_pEqB, e_vChain, e_vNeg, e_vRev, e_oInt, e_dSl, e_vNot, e_vOr, e_vLc2, e_isiL, e_isiI, e_isiB, e_isBB, e_oPar, e_oAug, e_oRevS, e_vIf, e_gGh, e_vRepL, e_pInt1B, e_oAugIx, e_mUnp, e_mPar2, e_mPar3, e_xTup, e_xLst, e_allN, e_allC, e_mDrp2, e_gTpl3, e_oSwap, e_vCallT, e_xCallO, e_mIns, e_mSetIx, e_vLend, e_flatO, e_flatFB, e_flatFI, e_isB, e_isNotBB, e_oUnp, e_iZp, e_oSetIxM, e_oIns, e_oWhile, e_xPV, e_xP, e_xPB, e_xPI, e_xV, e_xFz, e_x2, e_x2N, e_xB, e_xGix, e_mNil, e_mSeq, e_mIf, e_mRet, e_mSet, e_mGset, e_mGaug, e_mLft, e_mFor, e_mApp, e_gaNil, e_gaV, e_gaG, e_xCallG, Nat.reduceLT, Nat.reduceLeDiff, pl, cl, lc]
theorem e_vSrtRL {f : En → Option PyData} {Γ : En} : vSrtRL f Γ = (match f Γ with
  | some (.list xs) => (toInts xs).bind fun ns => if ns.length ≤ 1000 then some (.ow ((sortR ns).map PyData.int)) else none
  | _ => none) := id rfl
theorem e_bLend {i : Nat} {f : En → Option Bool} {Γ : En} : bLend i f Γ = f (frzE i Γ) := id rfl
theorem app_nums (a b : List Int) : nums a ++ nums b = nums (a ++ b) := List.map_append.symm
theorem merged_spec (a b : List Int) (h : a.length + b.length ≤ 1000) : m_merged [.list (nums a), .list (nums b)] = some (.ow (nums (sortR (a ++ b)))) := by
  have cc : (nums a).length + (nums b).length ≤ cap := by unfold nums; rw [List.length_map, List.length_map, cap_eq]; omega
  have ti : toInts (nums (a ++ b)) = some (a ++ b) := toInts_map _
  have ap := app_nums a b
  have ll : (a ++ b).length ≤ 1000 := by rw [List.length_append]; exact h
  have sr : (sortR (a ++ b)).map PyData.int = nums (sortR (a ++ b)) := rfl
  unfold m_merged mirror g_merged startE
  generalize nums (sortR (a ++ b)) = R at sr
  generalize nums (a ++ b) = AB at ap ti
  generalize a ++ b = ab at *
  generalize nums a = A at *
  generalize nums b = B at *
  simp only [List.map_cons, List.map_nil, List.length_cons, List.length_nil, List.replicate, List.cons_append, List.nil_append, List.getElem?_cons_zero, List.getElem?_cons_succ, List.set_cons_succ, List.set_cons_zero, Nat.reduceSub, Nat.zero_add, Nat.reduceAdd, Option.map_some, Option.map_none, Option.bind_some, if_true, List.length_map, List.length_range, e_setE0, e_setES, e_dOf, e_fzOf, e_fz, e_ow, e_gSl0, e_gSlS, e_gFz0, e_gFzS, e_kC, e_aNil, e_aCons, e_dLst, e_dTup, e_b2, e_pI, e_pAddI, e_pAddL, e_callD, e_bOf, e_bNot, e_bTru, e_truB, e_bAnd, e_bOr, e_vAnd, e_bYes, e_pLenL, e_pLenT, e_pAbs, e_pListOf, e_pIxL, e_pIxT, e_vIsi, e_iLst, e_iEnm, e_gNm, e_oNil, e_oSeq, e_oSet, e_oRet, e_oIf, e_oFor, e_oFrz, e_vLc, e_frz0w, e_frz0f, e_frzS, e_wipeN, e_wipeC, e_oRetV, e_oApp, e_oExt, e_iOwn, e_iOwnE, e_gTpl2, e_pEqI, e_pNeI, e_pNeB, e_pEqB, e_vChain, e_vNeg, e_vRev, e_oInt, e_dSl, e_vNot, e_vOr, e_vLc2, e_isiL, e_isiI, e_isiB, e_isBB, e_oPar, e_oAug, e_oRevS, e_vIf, e_gGh, e_vRepL, e_pInt1B, e_oAugIx, e_mUnp, e_mPar2, e_mPar3, e_xTup, e_xLst, e_allN, e_allC, e_mDrp2, e_gTpl3, e_oSwap, e_vCallT, e_xCallO, e_mIns, e_mSetIx, e_vLend, e_flatO, e_flatFB, e_flatFI, e_isB, e_isNotBB, e_oUnp, e_iZp, e_oSetIxM, e_oIns, e_oWhile, e_xPV, e_xP, e_xPB, e_xPI, e_xV, e_xFz, e_x2, e_x2N, e_xB, e_xGix, e_mNil, e_mSeq, e_mIf, e_mRet, e_mSet, e_mGset, e_mGaug, e_mLft, e_mFor, e_mApp, e_gaNil, e_gaV, e_gaG, e_xCallG, Nat.reduceLT, Nat.reduceLeDiff, cc, ap, e_vSrtRL, ti, ll, sr]
theorem srt_spec (a b : List Int) (h : a.length + b.length ≤ 1000) : pSortedL [.list (nums (a ++ b))] = some (.ow (nums (sortI (a ++ b)))) ∧ (nums (sortI (a ++ b))).reverse = nums (sortR (a ++ b)) := by
  refine ⟨?_, ?_⟩
  · unfold pSortedL nums
    dsimp only
    rw [toInts_map, Option.bind_some, if_pos (by rw [List.length_append]; exact h)]
  · unfold sortR nums
    rw [List.map_reverse]
theorem cnt_app (a b : List Int) (k : Int) : cnt (a ++ b) k = cnt a k + cnt b k := by
  unfold cnt; rw [List.filter_append, List.length_append]
theorem cnt_perm {a b : List Int} (h : a.Perm b) (k : Int) : cnt a k = cnt b k := by
  unfold cnt; exact (h.filter _).length_eq
theorem cols_merged {a b : List Int} : cols (sortR (a ++ b)) = addI (cols a) (cols b) := by
  refine addI_eq (cols_shp _) (cols_shp _) (cols_shp _) fun i => ?_
  rw [cols_get, cols_get, cols_get, cnt_perm (sortR_perm _), cnt_app]
  omega
theorem cols_added {a b : List Int} (ha : IsShp a) (hb : IsShp b) : cols (addI a b) = sortR (cols a ++ cols b) := by
  have e := cols_merged (a := cols a) (b := cols b)
  rw [cols_cols ha, cols_cols hb] at e
  rw [← e]
  exact cols_cols (sortR_shp (cols_shp _) (cols_shp _))
theorem addI_shp {a b : List Int} (ha : IsShp a) (hb : IsShp b) : IsShp (addI a b) := by
  have e := cols_merged (a := cols a) (b := cols b)
  rw [cols_cols ha, cols_cols hb] at e
  rw [← e]
  exact cols_shp _
theorem addI_len (a b : List Int) : (addI a b).length = max a.length b.length := by unfold addI; simp
structure Facts (a b : List Int) : Prop where
  sa : IsShp a
  sb : IsShp b
  la : a.length ≤ 40
  lb : b.length ≤ 40
  ta : topI a ≤ 100
  tb : topI b ≤ 100
theorem Facts.swap {a b : List Int} (h : Facts a b) : Facts b a := ⟨h.sb, h.sa, h.lb, h.la, h.tb, h.ta⟩
theorem cls (r : List Int) (h : topI r ≤ 100) : (cols r).length ≤ 100 := by rw [cols_len]; omega
theorem bene {a b : List Int} (h : Facts a b) : m_is_beneath [.list (nums a), .list (nums b)] = some (.fz (.bool (lbB a b))) := by
  have := h.la; have := h.lb
  rw [beneath_spec a b (by omega) (by omega), ben_lb]
theorem lbene {a b : List Int} (h : Facts a b) : m_law_beneath [.list (nums a), .list (nums b)] = some (.fz (.bool (lbB a b))) := by
  have := h.la; have := h.lb
  exact lawbeneath_spec a b (by omega) (by omega)
theorem cM {a b : List Int} (h : Facts a b) : m_by_columns [.list (nums (sortR (a ++ b)))] = some (.ow (nums (addI (cols a) (cols b)))) := by
  have h1 := h.la; have h2 := h.lb
  have l := (sortR_perm (a ++ b)).length_eq
  rw [List.length_append] at l
  have sh := sortR_shp h.sa h.sb
  have t0 := topI_nn sh.nn
  have t1 : (topI (sortR (a ++ b))).toNat ≤ 100 := by
    rw [← cols_len, cols_merged, addI_len]
    have := cls a h.ta; have := cls b h.tb
    omega
  rw [columns_spec _ (by omega) t0 (by omega), cols_merged]
theorem cA {a b : List Int} (h : Facts a b) : m_by_columns [.list (nums (addI a b))] = some (.ow (nums (sortR (cols a ++ cols b)))) := by
  have h1 := h.la; have h2 := h.lb
  have l := addI_len a b
  have sh := addI_shp h.sa h.sb
  have t0 := topI_nn sh.nn
  have t1 : (topI (addI a b)).toNat ≤ 200 := by
    rw [← cols_len, cols_added h.sa h.sb, (sortR_perm _).length_eq, List.length_append]
    have := cls a h.ta; have := cls b h.tb
    omega
  rw [columns_spec _ (by omega) t0 (by omega), cols_added h.sa h.sb]
theorem c1 {a b : List Int} (h : Facts a b) : m_by_columns [.list (nums a)] = some (.ow (nums (cols a))) := by
  have h1 := h.la; have h2 := h.ta
  exact columns_spec _ (by omega) (topI_nn h.sa.nn) (by omega)
theorem law_spec (s : List Int) (hs : s.length ≤ 63) : m_law [.list (nums s)] = some (.fz (.bool true)) := by
  obtain ⟨a, b, h0'⟩ := stock_spec s 0
  have h0 : m_law_stock [.list (nums s), .int 0] = some (.ow [.int a, .int b]) := h0'
  obtain ⟨a', b', h3'⟩ := stock_spec s 1
  have h3 : m_law_stock [.list (nums s), .int 1] = some (.ow [.int a', .int b']) := h3'
  obtain ⟨d, a1, b1, t1, d0, d8⟩ := take_at a b 8 (by decide) (by decide)
  have draw : ∀ (x y most top : Int), 0 ≤ most → most ≤ 40 → 1 ≤ top → top ≤ 100 → ∃ (r : List Int) (x' y' : Int), mG_law_shape [none, some (.int most), some (.int top)] [.int x, .int y] = some (.ow (nums r), [.int x', .int y']) ∧ IsShp r ∧ r.length ≤ 40 ∧ topI r ≤ 100 := fun x y most top m0 m1 n0 n1 => by
    obtain ⟨r, x', y', e, rl, rp, rb⟩ := shape_spec x y most top m0 (by omega) n0 (by omega)
    refine ⟨r, x', y', e, ⟨rp, fun z hz => (rb z hz).1⟩, by omega, ?_⟩
    cases r with
    | nil => rw [topI_nil]; omega
    | cons u us => have := (rb _ (topI_mem (r := u :: us) (by simp))).2; omega
  have c2 : (2 : Nat) ≤ cap := by rw [cap_eq]; decide
  have main : ∀ (most top : Int), 0 ≤ most → most ≤ 40 → 1 ≤ top → top ≤ 100 →
      (((decide ((5 : Int) < d) = false) ∧ most = 9 ∧ top = 12 ∧ decide (d < 7) = true) ∨ (decide ((5 : Int) < d) = true ∧ d - 6 = 0 ∧ most = 20 ∧ top = 50 ∧ decide (d < 7) = true) ∨ (decide ((5 : Int) < d) = true ∧ d - 6 = 1 ∧ most = 40 ∧ top = 100 ∧ decide (d < 7) = false)) → m_law [.list (nums s)] = some (.fz (.bool true)) := fun most top m0 m1 n0 n1 hc => by
    obtain ⟨r, x1, y1, e1, sr, lr, tr⟩ := draw a1 b1 most top m0 m1 n0 n1
    obtain ⟨q, x2, y2, e2, sq, lq, tq⟩ := draw a' b' most top m0 m1 n0 n1
    have F : Facts r q := ⟨sr, sq, lr, lq, tr, tq⟩
    have k1 := merged_spec r q (by omega)
    have k2 := added_spec r q (by omega) (by omega)
    have k3 := ladd_spec r q (by omega) (by omega)
    obtain ⟨k4, k5⟩ := srt_spec r q (by omega)
    have k6 := bene F
    have k7 := bene F.swap
    have k8 := lbene F
    have k9 := lbene F.swap
    have so := fun x => so_spec x x
    have u1 := c1 F
    have u2 := c1 F.swap
    have u3 := cM F
    have u4 := cA F
    have cr := cls r tr
    have cq := cls q tq
    have u5 := ladd_spec (cols r) (cols q) cr cq
    obtain ⟨u6, u7⟩ := srt_spec (cols r) (cols q) (by omega)
    have ap1 := app_nums r q
    have ap2 := app_nums (cols r) (cols q)
    have cc1 : (nums r).length + (nums q).length ≤ cap := by unfold nums; rw [List.length_map, List.length_map, cap_eq]; omega
    have cc2 : (nums (cols r)).length + (nums (cols q)).length ≤ cap := by unfold nums; rw [List.length_map, List.length_map, cap_eq]; omega
    have l1 : (nums (sortR (r ++ q))).length < cap := by
      unfold nums; rw [List.length_map, (sortR_perm _).length_eq, List.length_append, cap_eq]; omega
    have l2 : (nums (addI r q)).length < cap := by
      unfold nums; rw [List.length_map, addI_len, cap_eq]; omega
    have p1 : pEq (.list [.list (nums r), .list (nums q)]) (.list [.list (nums r), .list (nums q)]) = some (.fz (.bool true)) := pEq_rows [r, q]
    have p2 : pNe (.list [.list (nums r), .list (nums q)]) (.list [.list (nums r), .list (nums q)]) = some (.fz (.bool false)) := pNe_rows [r, q]
    have p3 : pEq (.list [.list (nums (sortR (r ++ q))), .list (nums (addI r q))]) (.list [.list (nums (sortR (r ++ q))), .list (nums (addI r q))]) = some (.fz (.bool true)) := pEq_rows [sortR (r ++ q), addI r q]
    have p4 : pNe (.list [.list (nums (sortR (r ++ q))), .list (nums (addI r q))]) (.list [.list (nums (sortR (r ++ q))), .list (nums (addI r q))]) = some (.fz (.bool false)) := pNe_rows [sortR (r ++ q), addI r q]
    have p5 := pNe_nums (addI (cols r) (cols q))
    have p6 := pNe_nums (sortR (cols r ++ cols q))
    clear F sr sq cr cq lr lq tr tq hs
    unfold m_law mirror g_law startE
    generalize m_law_stock = v1 at h0 h3
    generalize mG_law_take = v2 at t1
    generalize mG_law_shape = v3 at e1 e2
    generalize m_merged = v4 at k1
    generalize m_added = v5 at k2
    generalize m_law_added = v6 at k3 u5
    generalize m_is_beneath = v7 at k6 k7
    generalize m_law_beneath = v8 at k8 k9
    generalize m_law_so = v9 at so
    generalize m_by_columns = v10 at u1 u2 u3 u4
    generalize lbB r q = w1 at k6 k8
    generalize lbB q r = w2 at k7 k9
    generalize nums (sortR (r ++ q)) = A1 at *
    generalize nums (addI r q) = A2 at *
    generalize nums (sortR (cols r ++ cols q)) = A3 at *
    generalize nums (addI (cols r) (cols q)) = A4 at *
    generalize nums (sortI (r ++ q)) = A5 at *
    generalize nums (sortI (cols r ++ cols q)) = A6 at *
    generalize nums (r ++ q) = A7 at *
    generalize nums (cols r ++ cols q) = A8 at *
    generalize nums (cols r) = A9 at *
    generalize nums (cols q) = B1 at *
    generalize nums r = B2 at *
    generalize nums q = B3 at *
    generalize nums s = B4 at *
    rcases hc with ⟨z1, rfl, rfl, z2⟩ | ⟨z1, z3, rfl, rfl, z2⟩ | ⟨z1, z3, rfl, rfl, z2⟩
    · simp only [List.map_cons, List.map_nil, List.length_cons, List.length_nil, List.replicate, List.cons_append, List.nil_append, List.getElem?_cons_zero, List.getElem?_cons_succ, List.set_cons_succ, List.set_cons_zero, Nat.reduceSub, Nat.zero_add, Nat.reduceAdd, Option.map_some, Option.map_none, Option.bind_some, if_true, List.length_map, List.length_range, e_setE0, e_setES, e_dOf, e_fzOf, e_fz, e_ow, e_gSl0, e_gSlS, e_gFz0, e_gFzS, e_kC, e_aNil, e_aCons, e_dLst, e_dTup, e_b2, e_pI, e_pAddI, e_pAddL, e_callD, e_bOf, e_bNot, e_bTru, e_truB, e_bAnd, e_bOr, e_vAnd, e_bYes, e_pLenL, e_pLenT, e_pAbs, e_pListOf, e_pIxL, e_pIxT, e_vIsi, e_iLst, e_iEnm, e_gNm, e_oNil, e_oSeq, e_oSet, e_oRet, e_oIf, e_oFor, e_oFrz, e_vLc, e_frz0w, e_frz0f, e_frzS, e_wipeN, e_wipeC, e_oRetV, e_oApp, e_oExt, e_iOwn, e_iOwnE, e_gTpl2, e_pEqI, e_pNeI, e_pNeB, e_pEqB, e_vChain, e_vNeg, e_vRev, e_oInt, e_dSl, e_vNot, e_vOr, e_vLc2, e_isiL, e_isiI, e_isiB, e_isBB, e_oPar, e_oAug, e_oRevS, e_vIf, e_gGh, e_vRepL, e_pInt1B, e_oAugIx, e_mUnp, e_mPar2, e_mPar3, e_xTup, e_xLst, e_allN, e_allC, e_mDrp2, e_gTpl3, e_oSwap, e_vCallT, e_xCallO, e_mIns, e_mSetIx, e_vLend, e_flatO, e_flatFB, e_flatFI, e_isB, e_isNotBB, e_oUnp, e_iZp, e_oSetIxM, e_oIns, e_oWhile, e_xPV, e_xP, e_xPB, e_xPI, e_xV, e_xFz, e_x2, e_x2N, e_xB, e_xGix, e_mNil, e_mSeq, e_mIf, e_mRet, e_mSet, e_mGset, e_mGaug, e_mLft, e_mFor, e_mApp, e_gaNil, e_gaV, e_gaG, e_xCallG, Nat.reduceLT, Nat.reduceLeDiff, e_bLend, h0, h3, t1, z1, e1, e2, k1, k2, k3, k4, k5, k6, k7, k8, k9, so, u1, u2, u3, u4, u5, u6, u7, ap1, ap2, cc1, cc2, l1, l2, p1, p2, p3, p4, p5, p6, c2, z2, atI_0, atI_1, beq_self_eq_true, Bool.not_true]
    · simp only [List.map_cons, List.map_nil, List.length_cons, List.length_nil, List.replicate, List.cons_append, List.nil_append, List.getElem?_cons_zero, List.getElem?_cons_succ, List.set_cons_succ, List.set_cons_zero, Nat.reduceSub, Nat.zero_add, Nat.reduceAdd, Option.map_some, Option.map_none, Option.bind_some, if_true, List.length_map, List.length_range, e_setE0, e_setES, e_dOf, e_fzOf, e_fz, e_ow, e_gSl0, e_gSlS, e_gFz0, e_gFzS, e_kC, e_aNil, e_aCons, e_dLst, e_dTup, e_b2, e_pI, e_pAddI, e_pAddL, e_callD, e_bOf, e_bNot, e_bTru, e_truB, e_bAnd, e_bOr, e_vAnd, e_bYes, e_pLenL, e_pLenT, e_pAbs, e_pListOf, e_pIxL, e_pIxT, e_vIsi, e_iLst, e_iEnm, e_gNm, e_oNil, e_oSeq, e_oSet, e_oRet, e_oIf, e_oFor, e_oFrz, e_vLc, e_frz0w, e_frz0f, e_frzS, e_wipeN, e_wipeC, e_oRetV, e_oApp, e_oExt, e_iOwn, e_iOwnE, e_gTpl2, e_pEqI, e_pNeI, e_pNeB, e_pEqB, e_vChain, e_vNeg, e_vRev, e_oInt, e_dSl, e_vNot, e_vOr, e_vLc2, e_isiL, e_isiI, e_isiB, e_isBB, e_oPar, e_oAug, e_oRevS, e_vIf, e_gGh, e_vRepL, e_pInt1B, e_oAugIx, e_mUnp, e_mPar2, e_mPar3, e_xTup, e_xLst, e_allN, e_allC, e_mDrp2, e_gTpl3, e_oSwap, e_vCallT, e_xCallO, e_mIns, e_mSetIx, e_vLend, e_flatO, e_flatFB, e_flatFI, e_isB, e_isNotBB, e_oUnp, e_iZp, e_oSetIxM, e_oIns, e_oWhile, e_xPV, e_xP, e_xPB, e_xPI, e_xV, e_xFz, e_x2, e_x2N, e_xB, e_xGix, e_mNil, e_mSeq, e_mIf, e_mRet, e_mSet, e_mGset, e_mGaug, e_mLft, e_mFor, e_mApp, e_gaNil, e_gaV, e_gaG, e_xCallG, Nat.reduceLT, Nat.reduceLeDiff, e_bLend, h0, h3, t1, z1, z3, e1, e2, k1, k2, k3, k4, k5, k6, k7, k8, k9, so, u1, u2, u3, u4, u5, u6, u7, ap1, ap2, cc1, cc2, l1, l2, p1, p2, p3, p4, p5, p6, c2, z2, atI_0, atI_1, beq_self_eq_true, Bool.not_true]
    · simp only [List.map_cons, List.map_nil, List.length_cons, List.length_nil, List.replicate, List.cons_append, List.nil_append, List.getElem?_cons_zero, List.getElem?_cons_succ, List.set_cons_succ, List.set_cons_zero, Nat.reduceSub, Nat.zero_add, Nat.reduceAdd, Option.map_some, Option.map_none, Option.bind_some, if_true, List.length_map, List.length_range, e_setE0, e_setES, e_dOf, e_fzOf, e_fz, e_ow, e_gSl0, e_gSlS, e_gFz0, e_gFzS, e_kC, e_aNil, e_aCons, e_dLst, e_dTup, e_b2, e_pI, e_pAddI, e_pAddL, e_callD, e_bOf, e_bNot, e_bTru, e_truB, e_bAnd, e_bOr, e_vAnd, e_bYes, e_pLenL, e_pLenT, e_pAbs, e_pListOf, e_pIxL, e_pIxT, e_vIsi, e_iLst, e_iEnm, e_gNm, e_oNil, e_oSeq, e_oSet, e_oRet, e_oIf, e_oFor, e_oFrz, e_vLc, e_frz0w, e_frz0f, e_frzS, e_wipeN, e_wipeC, e_oRetV, e_oApp, e_oExt, e_iOwn, e_iOwnE, e_gTpl2, e_pEqI, e_pNeI, e_pNeB, e_pEqB, e_vChain, e_vNeg, e_vRev, e_oInt, e_dSl, e_vNot, e_vOr, e_vLc2, e_isiL, e_isiI, e_isiB, e_isBB, e_oPar, e_oAug, e_oRevS, e_vIf, e_gGh, e_vRepL, e_pInt1B, e_oAugIx, e_mUnp, e_mPar2, e_mPar3, e_xTup, e_xLst, e_allN, e_allC, e_mDrp2, e_gTpl3, e_oSwap, e_vCallT, e_xCallO, e_mIns, e_mSetIx, e_vLend, e_flatO, e_flatFB, e_flatFI, e_isB, e_isNotBB, e_oUnp, e_iZp, e_oSetIxM, e_oIns, e_oWhile, e_xPV, e_xP, e_xPB, e_xPI, e_xV, e_xFz, e_x2, e_x2N, e_xB, e_xGix, e_mNil, e_mSeq, e_mIf, e_mRet, e_mSet, e_mGset, e_mGaug, e_mLft, e_mFor, e_mApp, e_gaNil, e_gaV, e_gaG, e_xCallG, Nat.reduceLT, Nat.reduceLeDiff, e_bLend, h0, h3, t1, z1, z3, e1, e2, k1, k2, k3, k4, k5, k6, k7, k8, k9, so, u1, u2, u3, u4, u5, u6, u7, ap1, ap2, cc1, cc2, l1, l2, p1, p2, p3, p4, p5, p6, c2, z2, atI_0, atI_1, beq_self_eq_true, Bool.not_true]
  by_cases q5 : (5 : Int) < d
  · by_cases q6 : d - 6 = 0
    · exact main 20 50 (by decide) (by decide) (by decide) (by decide) (.inr (.inl ⟨decide_eq_true q5, q6, rfl, rfl, decide_eq_true (by omega)⟩))
    · exact main 40 100 (by decide) (by decide) (by decide) (by decide) (.inr (.inr ⟨decide_eq_true q5, by omega, rfl, rfl, decide_eq_false (by omega)⟩))
  · exact main 9 12 (by decide) (by decide) (by decide) (by decide) (.inl ⟨decide_eq_false q5, rfl, rfl, decide_eq_true (by omega)⟩)
section
theorem all_mk {l : PySem.W.OpenLaw} {w : World} {K : PySem.W.Frag} {h : Heap} {mg : Str → Option Value} {fa : Addr} (X : K.In h) (G : h.Ns mainGlobals mg) (hfa : mg "law" = some (.ref fa))
    {f_law_cell f_law_stock f_places_of_both f_number_at f_added f_merged f_by_columns f_law_added f_law_so f_law_beneath f_is_beneath f_law_take f_law_shape f_law : Addr}
    {od_law_cell an_law_cell od_law_stock an_law_stock od_places_of_both an_places_of_both od_number_at an_number_at od_added an_added od_merged an_merged od_by_columns an_by_columns od_law_added an_law_added od_law_so an_law_so od_law_beneath an_law_beneath od_is_beneath an_is_beneath od_law_take an_law_take od_law_shape an_law_shape od_law an_law : Option Addr}
    {sl_law_cell sl_law_stock sl_places_of_both sl_number_at sl_added sl_merged sl_by_columns sl_law_added sl_law_so sl_law_beneath sl_is_beneath sl_law_take sl_law_shape sl_law : Array (Option Value)}
    {oc_law_cell kV_law_cell dc_law_cell pm_law_cell cd_law_cell ct_law_cell oc_law_stock kV_law_stock dc_law_stock pm_law_stock cd_law_stock ct_law_stock oc_places_of_both kV_places_of_both dc_places_of_both pm_places_of_both cd_places_of_both ct_places_of_both oc_number_at kV_number_at dc_number_at pm_number_at cd_number_at ct_number_at oc_added kV_added dc_added pm_added cd_added ct_added oc_merged kV_merged dc_merged pm_merged cd_merged ct_merged oc_by_columns kV_by_columns dc_by_columns pm_by_columns cd_by_columns ct_by_columns oc_law_added kV_law_added dc_law_added pm_law_added cd_law_added ct_law_added oc_law_so kV_law_so dc_law_so pm_law_so cd_law_so ct_law_so oc_law_beneath kV_law_beneath dc_law_beneath pm_law_beneath cd_law_beneath ct_law_beneath oc_is_beneath kV_is_beneath dc_is_beneath pm_is_beneath cd_is_beneath ct_is_beneath oc_law_take kV_law_take dc_law_take pm_law_take cd_law_take ct_law_take oc_law_shape kV_law_shape dc_law_shape pm_law_shape cd_law_shape ct_law_shape oc_law kV_law dc_law pm_law cd_law ct_law : Value}
    (a_law_cell : PySem.W.nsIn K mainGlobals "_law_cell" = some (some (.ref f_law_cell))) (l_law_cell : K.lookup f_law_cell = some ⟨oc_law_cell, od_law_cell, .func (PySem.W.fnOf "_law_cell" "_law_cell" (defArgs s_law_cell) (defBody s_law_cell) (defScope s_law_cell) .none kV_law_cell dc_law_cell pm_law_cell an_law_cell cd_law_cell ct_law_cell), sl_law_cell⟩) (c_law_cell : PySem.W.codeIn K cd_law_cell "_law_cell" = true) (k_law_cell : PySem.W.keepIn K (.ref f_law_cell) = true)
    (a_law_stock : PySem.W.nsIn K mainGlobals "_law_stock" = some (some (.ref f_law_stock))) (l_law_stock : K.lookup f_law_stock = some ⟨oc_law_stock, od_law_stock, .func (PySem.W.fnOf "_law_stock" "_law_stock" (defArgs s_law_stock) (defBody s_law_stock) (defScope s_law_stock) .none kV_law_stock dc_law_stock pm_law_stock an_law_stock cd_law_stock ct_law_stock), sl_law_stock⟩) (c_law_stock : PySem.W.codeIn K cd_law_stock "_law_stock" = true) (k_law_stock : PySem.W.keepIn K (.ref f_law_stock) = true)
    (a_places_of_both : PySem.W.nsIn K mainGlobals "places_of_both" = some (some (.ref f_places_of_both))) (l_places_of_both : K.lookup f_places_of_both = some ⟨oc_places_of_both, od_places_of_both, .func (PySem.W.fnOf "places_of_both" "places_of_both" (defArgs s_places_of_both) (defBody s_places_of_both) (defScope s_places_of_both) .none kV_places_of_both dc_places_of_both pm_places_of_both an_places_of_both cd_places_of_both ct_places_of_both), sl_places_of_both⟩) (c_places_of_both : PySem.W.codeIn K cd_places_of_both "places_of_both" = true) (k_places_of_both : PySem.W.keepIn K (.ref f_places_of_both) = true)
    (a_number_at : PySem.W.nsIn K mainGlobals "number_at" = some (some (.ref f_number_at))) (l_number_at : K.lookup f_number_at = some ⟨oc_number_at, od_number_at, .func (PySem.W.fnOf "number_at" "number_at" (defArgs s_number_at) (defBody s_number_at) (defScope s_number_at) .none kV_number_at dc_number_at pm_number_at an_number_at cd_number_at ct_number_at), sl_number_at⟩) (c_number_at : PySem.W.codeIn K cd_number_at "number_at" = true) (k_number_at : PySem.W.keepIn K (.ref f_number_at) = true)
    (a_added : PySem.W.nsIn K mainGlobals "added" = some (some (.ref f_added))) (l_added : K.lookup f_added = some ⟨oc_added, od_added, .func (PySem.W.fnOf "added" "added" (defArgs s_added) (defBody s_added) (defScope s_added) .none kV_added dc_added pm_added an_added cd_added ct_added), sl_added⟩) (c_added : PySem.W.codeIn K cd_added "added" = true) (k_added : PySem.W.keepIn K (.ref f_added) = true)
    (a_merged : PySem.W.nsIn K mainGlobals "merged" = some (some (.ref f_merged))) (l_merged : K.lookup f_merged = some ⟨oc_merged, od_merged, .func (PySem.W.fnOf "merged" "merged" (defArgs s_merged) (defBody s_merged) (defScope s_merged) .none kV_merged dc_merged pm_merged an_merged cd_merged ct_merged), sl_merged⟩) (c_merged : PySem.W.codeIn K cd_merged "merged" = true) (k_merged : PySem.W.keepIn K (.ref f_merged) = true)
    (a_by_columns : PySem.W.nsIn K mainGlobals "by_columns" = some (some (.ref f_by_columns))) (l_by_columns : K.lookup f_by_columns = some ⟨oc_by_columns, od_by_columns, .func (PySem.W.fnOf "by_columns" "by_columns" (defArgs s_by_columns) (defBody s_by_columns) (defScope s_by_columns) .none kV_by_columns dc_by_columns pm_by_columns an_by_columns cd_by_columns ct_by_columns), sl_by_columns⟩) (c_by_columns : PySem.W.codeIn K cd_by_columns "by_columns" = true) (k_by_columns : PySem.W.keepIn K (.ref f_by_columns) = true)
    (a_law_added : PySem.W.nsIn K mainGlobals "_law_added" = some (some (.ref f_law_added))) (l_law_added : K.lookup f_law_added = some ⟨oc_law_added, od_law_added, .func (PySem.W.fnOf "_law_added" "_law_added" (defArgs s_law_added) (defBody s_law_added) (defScope s_law_added) .none kV_law_added dc_law_added pm_law_added an_law_added cd_law_added ct_law_added), sl_law_added⟩) (c_law_added : PySem.W.codeIn K cd_law_added "_law_added" = true) (k_law_added : PySem.W.keepIn K (.ref f_law_added) = true)
    (a_law_so : PySem.W.nsIn K mainGlobals "_law_so" = some (some (.ref f_law_so))) (l_law_so : K.lookup f_law_so = some ⟨oc_law_so, od_law_so, .func (PySem.W.fnOf "_law_so" "_law_so" (defArgs s_law_so) (defBody s_law_so) (defScope s_law_so) .none kV_law_so dc_law_so pm_law_so an_law_so cd_law_so ct_law_so), sl_law_so⟩) (c_law_so : PySem.W.codeIn K cd_law_so "_law_so" = true) (k_law_so : PySem.W.keepIn K (.ref f_law_so) = true)
    (a_law_beneath : PySem.W.nsIn K mainGlobals "_law_beneath" = some (some (.ref f_law_beneath))) (l_law_beneath : K.lookup f_law_beneath = some ⟨oc_law_beneath, od_law_beneath, .func (PySem.W.fnOf "_law_beneath" "_law_beneath" (defArgs s_law_beneath) (defBody s_law_beneath) (defScope s_law_beneath) .none kV_law_beneath dc_law_beneath pm_law_beneath an_law_beneath cd_law_beneath ct_law_beneath), sl_law_beneath⟩) (c_law_beneath : PySem.W.codeIn K cd_law_beneath "_law_beneath" = true) (k_law_beneath : PySem.W.keepIn K (.ref f_law_beneath) = true)
    (a_is_beneath : PySem.W.nsIn K mainGlobals "is_beneath" = some (some (.ref f_is_beneath))) (l_is_beneath : K.lookup f_is_beneath = some ⟨oc_is_beneath, od_is_beneath, .func (PySem.W.fnOf "is_beneath" "is_beneath" (defArgs s_is_beneath) (defBody s_is_beneath) (defScope s_is_beneath) .none kV_is_beneath dc_is_beneath pm_is_beneath an_is_beneath cd_is_beneath ct_is_beneath), sl_is_beneath⟩) (c_is_beneath : PySem.W.codeIn K cd_is_beneath "is_beneath" = true) (k_is_beneath : PySem.W.keepIn K (.ref f_is_beneath) = true)
    (a_law_take : PySem.W.nsIn K mainGlobals "_law_take" = some (some (.ref f_law_take))) (l_law_take : K.lookup f_law_take = some ⟨oc_law_take, od_law_take, .func (PySem.W.fnOf "_law_take" "_law_take" (defArgs s_law_take) (defBody s_law_take) (defScope s_law_take) .none kV_law_take dc_law_take pm_law_take an_law_take cd_law_take ct_law_take), sl_law_take⟩) (c_law_take : PySem.W.codeIn K cd_law_take "_law_take" = true) (k_law_take : PySem.W.keepIn K (.ref f_law_take) = true)
    (a_law_shape : PySem.W.nsIn K mainGlobals "_law_shape" = some (some (.ref f_law_shape))) (l_law_shape : K.lookup f_law_shape = some ⟨oc_law_shape, od_law_shape, .func (PySem.W.fnOf "_law_shape" "_law_shape" (defArgs s_law_shape) (defBody s_law_shape) (defScope s_law_shape) .none kV_law_shape dc_law_shape pm_law_shape an_law_shape cd_law_shape ct_law_shape), sl_law_shape⟩) (c_law_shape : PySem.W.codeIn K cd_law_shape "_law_shape" = true) (k_law_shape : PySem.W.keepIn K (.ref f_law_shape) = true)
    (a_law : PySem.W.nsIn K mainGlobals "law" = some (some (.ref f_law))) (l_law : K.lookup f_law = some ⟨oc_law, od_law, .func (PySem.W.fnOf "law" "law" (defArgs s_law) (defBody s_law) (defScope s_law) .none kV_law dc_law pm_law an_law cd_law ct_law), sl_law⟩) (c_law : PySem.W.codeIn K cd_law "law" = true) (k_law : PySem.W.keepIn K (.ref f_law) = true)
    (z_abs : PySem.W.nsIn K mainGlobals "abs" = some none) (z_all : PySem.W.nsIn K mainGlobals "all" = some none) (z_bool : PySem.W.nsIn K mainGlobals "bool" = some none) (z_isinstance : PySem.W.nsIn K mainGlobals "isinstance" = some none) (z_len : PySem.W.nsIn K mainGlobals "len" = some none) (z_list : PySem.W.nsIn K mainGlobals "list" = some none) (z_max : PySem.W.nsIn K mainGlobals "max" = some none) (z_range : PySem.W.nsIn K mainGlobals "range" = some none) (z_sorted : PySem.W.nsIn K mainGlobals "sorted" = some none) (z_sum : PySem.W.nsIn K mainGlobals "sum" = some none) :
    ∃ fd : FuncData, (∀ (s : Shared) (v : Value), BindsTo s fd ⟨[v], []⟩ [("_law_script", v)]) ∧ ∀ base : Heap, K.In base → base.Ns mainGlobals mg → FnOk l.prog w K mg base CX0 3 fa fd ["_law_script"] (spD K 1 m_law) := by
  have e := hfa.symm.trans (PySem.W.mg_of X G a_law)
  cases e
  have hm_abs := PySem.W.mg_none_of X G z_abs
  have hm_all := PySem.W.mg_none_of X G z_all
  have hm_bool := PySem.W.mg_none_of X G z_bool
  have hm_isinstance := PySem.W.mg_none_of X G z_isinstance
  have hm_len := PySem.W.mg_none_of X G z_len
  have hm_list := PySem.W.mg_none_of X G z_list
  have hm_max := PySem.W.mg_none_of X G z_max
  have hm_range := PySem.W.mg_none_of X G z_range
  have hm_sorted := PySem.W.mg_none_of X G z_sorted
  have hm_sum := PySem.W.mg_none_of X G z_sum
  have F_law_cell := fun_mk (st := s_law_cell) l_law_cell c_law_cell k_law_cell
  have mg_law_cell := PySem.W.mg_of X G a_law_cell
  have B_law_cell := F_law_cell.binds (ps := ["_law_script", "_law_at"]) fun _ _ _ _ _ _ us hl => match us, hl with | [_, _], _ => rfl
  have F_law_stock := fun_mk (st := s_law_stock) l_law_stock c_law_stock k_law_stock
  have mg_law_stock := PySem.W.mg_of X G a_law_stock
  have B_law_stock := F_law_stock.binds (ps := ["_law_script", "_law_at"]) fun _ _ _ _ _ _ us hl => match us, hl with | [_, _], _ => rfl
  have F_places_of_both := fun_mk (st := s_places_of_both) l_places_of_both c_places_of_both k_places_of_both
  have mg_places_of_both := PySem.W.mg_of X G a_places_of_both
  have B_places_of_both := F_places_of_both.binds (ps := ["one", "other"]) fun _ _ _ _ _ _ us hl => match us, hl with | [_, _], _ => rfl
  have F_number_at := fun_mk (st := s_number_at) l_number_at c_number_at k_number_at
  have mg_number_at := PySem.W.mg_of X G a_number_at
  have B_number_at := F_number_at.binds (ps := ["shape", "place"]) fun _ _ _ _ _ _ us hl => match us, hl with | [_, _], _ => rfl
  have F_added := fun_mk (st := s_added) l_added c_added k_added
  have mg_added := PySem.W.mg_of X G a_added
  have B_added := F_added.binds (ps := ["one", "other"]) fun _ _ _ _ _ _ us hl => match us, hl with | [_, _], _ => rfl
  have F_merged := fun_mk (st := s_merged) l_merged c_merged k_merged
  have mg_merged := PySem.W.mg_of X G a_merged
  have B_merged := F_merged.binds (ps := ["one", "other"]) fun _ _ _ _ _ _ us hl => match us, hl with | [_, _], _ => rfl
  have F_by_columns := fun_mk (st := s_by_columns) l_by_columns c_by_columns k_by_columns
  have mg_by_columns := PySem.W.mg_of X G a_by_columns
  have B_by_columns := F_by_columns.binds (ps := ["shape"]) fun _ _ _ _ _ _ us hl => match us, hl with | [_], _ => rfl
  have F_law_added := fun_mk (st := s_law_added) l_law_added c_law_added k_law_added
  have mg_law_added := PySem.W.mg_of X G a_law_added
  have B_law_added := F_law_added.binds (ps := ["_law_one", "_law_other"]) fun _ _ _ _ _ _ us hl => match us, hl with | [_, _], _ => rfl
  have F_law_so := fun_mk (st := s_law_so) l_law_so c_law_so k_law_so
  have mg_law_so := PySem.W.mg_of X G a_law_so
  have B_law_so := F_law_so.binds (ps := ["_law_found", "_law_due"]) fun _ _ _ _ _ _ us hl => match us, hl with | [_, _], _ => rfl
  have F_law_beneath := fun_mk (st := s_law_beneath) l_law_beneath c_law_beneath k_law_beneath
  have mg_law_beneath := PySem.W.mg_of X G a_law_beneath
  have B_law_beneath := F_law_beneath.binds (ps := ["_law_one", "_law_other"]) fun _ _ _ _ _ _ us hl => match us, hl with | [_, _], _ => rfl
  have F_is_beneath := fun_mk (st := s_is_beneath) l_is_beneath c_is_beneath k_is_beneath
  have mg_is_beneath := PySem.W.mg_of X G a_is_beneath
  have B_is_beneath := F_is_beneath.binds (ps := ["one", "other"]) fun _ _ _ _ _ _ us hl => match us, hl with | [_, _], _ => rfl
  have F_law_take := fun_mk (st := s_law_take) l_law_take c_law_take k_law_take
  have mg_law_take := PySem.W.mg_of X G a_law_take
  have B_law_take := F_law_take.binds (ps := ["_law_stock_here", "_law_many"]) fun _ _ _ _ _ _ us hl => match us, hl with | [_, _], _ => rfl
  have F_law_shape := fun_mk (st := s_law_shape) l_law_shape c_law_shape k_law_shape
  have mg_law_shape := PySem.W.mg_of X G a_law_shape
  have B_law_shape := F_law_shape.binds (ps := ["_law_stock_here", "_law_most", "_law_top"]) fun _ _ _ _ _ _ us hl => match us, hl with | [_, _, _], _ => rfl
  have F_law := fun_mk (st := s_law) l_law c_law k_law
  refine ⟨PySem.W.fnOf "law" "law" (defArgs s_law) (defBody s_law) (defScope s_law) .none kV_law dc_law pm_law an_law cd_law ct_law, fun s v => .of_eq rfl, fun base _ _ => ?_⟩
  have O_law_cell : FnOk l.prog w K mg base CX0 1 _ _ ["_law_script", "_law_at"] (spD K 2 m_law_cell) := (b_law_cell (P := l.prog) (w := w) (K := K) (mg := mg) (base := base) hm_len).elim fun _ hb => fn_ok F_law_cell sc_law_cell hb
  have O_law_stock : FnOk l.prog w K mg base CX0 2 _ _ ["_law_script", "_law_at"] (spD K 2 m_law_stock) := (b_law_stock (P := l.prog) (w := w) (K := K) (mg := mg) (base := base) hm_abs ⟨⟨f_law_cell, _, 1, O_law_cell, Nat.le_of_ble_eq_true rfl, mg_law_cell, k_law_cell, B_law_cell⟩⟩).elim fun _ hb => fn_ok F_law_stock sc_law_stock hb
  have O_places_of_both : FnOk l.prog w K mg base CX0 1 _ _ ["one", "other"] (spD K 2 m_places_of_both) := (b_places_of_both (P := l.prog) (w := w) (K := K) (mg := mg) (base := base) hm_len hm_list hm_max hm_range).elim fun _ hb => fn_ok F_places_of_both sc_places_of_both hb
  have O_number_at : FnOk l.prog w K mg base CX0 1 _ _ ["shape", "place"] (spD K 2 m_number_at) := (b_number_at (P := l.prog) (w := w) (K := K) (mg := mg) (base := base) hm_len).elim fun _ hb => fn_ok F_number_at sc_number_at hb
  have O_added : FnOk l.prog w K mg base CX0 2 _ _ ["one", "other"] (spD K 2 m_added) := (b_added (P := l.prog) (w := w) (K := K) (mg := mg) (base := base) ⟨⟨f_places_of_both, _, 1, O_places_of_both, Nat.le_of_ble_eq_true rfl, mg_places_of_both, k_places_of_both, B_places_of_both⟩⟩ ⟨⟨f_number_at, _, 1, O_number_at, Nat.le_of_ble_eq_true rfl, mg_number_at, k_number_at, B_number_at⟩⟩).elim fun _ hb => fn_ok F_added sc_added hb
  have O_merged : FnOk l.prog w K mg base CX0 1 _ _ ["one", "other"] (spD K 2 m_merged) := (b_merged (P := l.prog) (w := w) (K := K) (mg := mg) (base := base) hm_sorted).elim fun _ hb => fn_ok F_merged sc_merged hb
  have O_by_columns : FnOk l.prog w K mg base CX0 1 _ _ ["shape"] (spD K 1 m_by_columns) := (b_by_columns (P := l.prog) (w := w) (K := K) (mg := mg) (base := base) hm_len hm_max hm_range).elim fun _ hb => fn_ok F_by_columns sc_by_columns hb
  have O_law_added : FnOk l.prog w K mg base CX0 1 _ _ ["_law_one", "_law_other"] (spD K 2 m_law_added) := (b_law_added (P := l.prog) (w := w) (K := K) (mg := mg) (base := base) hm_len hm_max hm_range hm_sum).elim fun _ hb => fn_ok F_law_added sc_law_added hb
  have O_law_so : FnOk l.prog w K mg base CX0 1 _ _ ["_law_found", "_law_due"] (spD K 2 m_law_so) := (b_law_so (P := l.prog) (w := w) (K := K) (mg := mg) (base := base) hm_bool hm_isinstance).elim fun _ hb => fn_ok F_law_so sc_law_so hb
  have O_law_beneath : FnOk l.prog w K mg base CX0 1 _ _ ["_law_one", "_law_other"] (spD K 2 m_law_beneath) := (b_law_beneath (P := l.prog) (w := w) (K := K) (mg := mg) (base := base) hm_len hm_range hm_sum).elim fun _ hb => fn_ok F_law_beneath sc_law_beneath hb
  have O_is_beneath : FnOk l.prog w K mg base CX0 2 _ _ ["one", "other"] (spD K 2 m_is_beneath) := (b_is_beneath (P := l.prog) (w := w) (K := K) (mg := mg) (base := base) hm_all hm_sum ⟨⟨f_places_of_both, _, 1, O_places_of_both, Nat.le_of_ble_eq_true rfl, mg_places_of_both, k_places_of_both, B_places_of_both⟩⟩).elim fun _ hb => fn_ok F_is_beneath sc_is_beneath hb
  have OG_law_take : FnOk l.prog w K mg base CX0 1 _ _ ["_law_stock_here", "_law_many"] (spG K 2 mG_law_take) := fn_okG F_law_take sc_law_take (bG_law_take (P := l.prog) (w := w) (K := K) (mg := mg) (base := base) )
  have OG_law_shape : FnOk l.prog w K mg base CX0 2 _ _ ["_law_stock_here", "_law_most", "_law_top"] (spG K 3 mG_law_shape) := fn_okG F_law_shape sc_law_shape (bG_law_shape (P := l.prog) (w := w) (K := K) (mg := mg) (base := base) hm_range ⟨⟨f_law_take, _, 1, OG_law_take, Nat.le_of_ble_eq_true rfl, mg_law_take, k_law_take, B_law_take⟩⟩)
  have O_law : FnOk l.prog w K mg base CX0 3 _ _ ["_law_script"] (spD K 1 m_law) := (b_law (P := l.prog) (w := w) (K := K) (mg := mg) (base := base) hm_list hm_sorted ⟨⟨f_law_stock, _, 2, O_law_stock, Nat.le_of_ble_eq_true rfl, mg_law_stock, k_law_stock, B_law_stock⟩⟩ ⟨⟨f_added, _, 2, O_added, Nat.le_of_ble_eq_true rfl, mg_added, k_added, B_added⟩⟩ ⟨⟨f_merged, _, 1, O_merged, Nat.le_of_ble_eq_true rfl, mg_merged, k_merged, B_merged⟩⟩ ⟨⟨f_by_columns, _, 1, O_by_columns, Nat.le_of_ble_eq_true rfl, mg_by_columns, k_by_columns, B_by_columns⟩⟩ ⟨⟨f_law_added, _, 1, O_law_added, Nat.le_of_ble_eq_true rfl, mg_law_added, k_law_added, B_law_added⟩⟩ ⟨⟨f_law_so, _, 1, O_law_so, Nat.le_of_ble_eq_true rfl, mg_law_so, k_law_so, B_law_so⟩⟩ ⟨⟨f_law_beneath, _, 1, O_law_beneath, Nat.le_of_ble_eq_true rfl, mg_law_beneath, k_law_beneath, B_law_beneath⟩⟩ ⟨⟨f_is_beneath, _, 2, O_is_beneath, Nat.le_of_ble_eq_true rfl, mg_is_beneath, k_is_beneath, B_is_beneath⟩⟩ ⟨⟨f_law_shape, _, 2, OG_law_shape, Nat.le_of_ble_eq_true rfl, mg_law_shape, k_law_shape, B_law_shape⟩⟩ ⟨⟨f_law_take, _, 1, OG_law_take, Nat.le_of_ble_eq_true rfl, mg_law_take, k_law_take, B_law_take⟩⟩).elim fun _ hb => fn_ok F_law sc_law hb
  exact O_law
end
theorem walk {l : PySem.W.OpenLaw} {q : Program} {loose : List Str} {XP : (Str → Option Value) → Heap → Prop} {YP : World → Heap → Prop} {d : DefRec} {K : Params → PySem.W.Frag} (hn : l.most = some 63) (hdf : d.params.defaults = [])
    (hY : ∀ (w : World) (h : Heap), YP w h → (K w.params).In h)
    (F : ∀ (w : World) (mg : Str → Option Value) (fa : Addr) (h : Heap), (K w.params).In h → h.Ns mainGlobals mg → mg d.name = some (.ref fa) →
      ∃ fd : FuncData, (∀ (s : Shared) (u : Value), BindsTo s fd ⟨[u], []⟩ [("_law_script", u)]) ∧ ∀ base : Heap, (K w.params).In base → base.Ns mainGlobals mg → FnOk l.prog w (K w.params) mg base CX0 3 fa fd ["_law_script"] (spD (K w.params) 1 m_law)) :
    PySem.W.WalkO q loose XP YP l.row.toRowW d [] (fun f vs => PySem.call f vs) :=
  L2.walk_of (n := 63) (k := 3) (x := "_law_script") (CX := fun _ => CX0) (sp := fun w => spD (K w.params) 1 m_law) hn (by decide) hdf ⟨rfl, by decide, by decide⟩ hY F
    (fun w H a ns hl _ hS => ⟨H, [.list (nums ns)], .fz (.bool true), .refl H, rfl, .cons (.lst hS (dpAll_ints ns)) .nil, law_spec ns hl, fun v F' H' _ l => l.bl⟩) fun _ _ _ _ _ z => z
end
end K29
open PySem PySem.W PyProof.Rows
set_option maxRecDepth 100000 in
set_option maxHeartbeats 0 in
theorem PySem.Challenge.cw_bandorder_k29_merged_and_added_holds : PySem.Challenge.rw_bandorder_k29_merged_and_added.Holds := by
  w_on; o_law; k_head; (case hw => w_witness2)
  k_fill
  refine K29.walk (l := PySem.Challenge.rw_bandorder_k29_merged_and_added) rfl rfl (fun w h Y => PySem.W.kIn_of Y) ?F
  case F =>
    intro w mg fa h KX G hmg
    refine' K29.all_mk KX G hmg ?a_law_cell ?l_law_cell ?c_law_cell ?k_law_cell ?a_law_stock ?l_law_stock ?c_law_stock ?k_law_stock ?a_places_of_both ?l_places_of_both ?c_places_of_both ?k_places_of_both ?a_number_at ?l_number_at ?c_number_at ?k_number_at ?a_added ?l_added ?c_added ?k_added ?a_merged ?l_merged ?c_merged ?k_merged ?a_by_columns ?l_by_columns ?c_by_columns ?k_by_columns ?a_law_added ?l_law_added ?c_law_added ?k_law_added ?a_law_so ?l_law_so ?c_law_so ?k_law_so ?a_law_beneath ?l_law_beneath ?c_law_beneath ?k_law_beneath ?a_is_beneath ?l_is_beneath ?c_is_beneath ?k_is_beneath ?a_law_take ?l_law_take ?c_law_take ?k_law_take ?a_law_shape ?l_law_shape ?c_law_shape ?k_law_shape ?a_law ?l_law ?c_law ?k_law ?z_abs ?z_all ?z_bool ?z_isinstance ?z_len ?z_list ?z_max ?z_range ?z_sorted ?z_sum
    (case a_law_cell => k_is)
    (case l_law_cell => k_is)
    (case c_law_cell => k_is)
    (case k_law_cell => k_is)
    (case a_law_stock => k_is)
    (case l_law_stock => k_is)
    (case c_law_stock => k_is)
    (case k_law_stock => k_is)
    (case a_places_of_both => k_is)
    (case l_places_of_both => k_is)
    (case c_places_of_both => k_is)
    (case k_places_of_both => k_is)
    (case a_number_at => k_is)
    (case l_number_at => k_is)
    (case c_number_at => k_is)
    (case k_number_at => k_is)
    (case a_added => k_is)
    (case l_added => k_is)
    (case c_added => k_is)
    (case k_added => k_is)
    (case a_merged => k_is)
    (case l_merged => k_is)
    (case c_merged => k_is)
    (case k_merged => k_is)
    (case a_by_columns => k_is)
    (case l_by_columns => k_is)
    (case c_by_columns => k_is)
    (case k_by_columns => k_is)
    (case a_law_added => k_is)
    (case l_law_added => k_is)
    (case c_law_added => k_is)
    (case k_law_added => k_is)
    (case a_law_so => k_is)
    (case l_law_so => k_is)
    (case c_law_so => k_is)
    (case k_law_so => k_is)
    (case a_law_beneath => k_is)
    (case l_law_beneath => k_is)
    (case c_law_beneath => k_is)
    (case k_law_beneath => k_is)
    (case a_is_beneath => k_is)
    (case l_is_beneath => k_is)
    (case c_is_beneath => k_is)
    (case k_is_beneath => k_is)
    (case a_law_take => k_is)
    (case l_law_take => k_is)
    (case c_law_take => k_is)
    (case k_law_take => k_is)
    (case a_law_shape => k_is)
    (case l_law_shape => k_is)
    (case c_law_shape => k_is)
    (case k_law_shape => k_is)
    (case a_law => k_is)
    (case l_law => k_is)
    (case c_law => k_is)
    (case k_law => k_is)
    (case z_abs => k_is)
    (case z_all => k_is)
    (case z_bool => k_is)
    (case z_isinstance => k_is)
    (case z_len => k_is)
    (case z_list => k_is)
    (case z_max => k_is)
    (case z_range => k_is)
    (case z_sorted => k_is)
    (case z_sum => k_is)
