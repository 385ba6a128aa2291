import PyProof.Rows.All
import Wide.All
import OpenK.AllK
import Wide.FinOn
import PyProof.EqAt
import PyProof.EqKinds
import PyProof.TupleCall
import KE.BitLaws
import PySem.Challenge.RW_leavings_k50_texts_of_no_list
-- CHANGE: your row's module here, as the last of these rows
set_option Elab.async false
set_option linter.all false
set_option maxRecDepth 100000
namespace L2
open PySem PySem.Spec PyProof.Rows
/-- a key: an int or a str -/
abbrev Key := Sum Int Str
def keyIs : Key → Value → Bool
  | .inl k, v => Value.isInt k v
  | .inr x, v => Value.isStrOf x v
def keyH (w : World) : Key → Int
  | .inl k => hashInt k
  | .inr x => hashStr w x
theorem keyIs_shape : ∀ {k : Key} {v : Value}, keyIs k v = true → (∃ i t, k = Sum.inl i ∧ v = Value.int i t) ∨ (∃ x t, k = Sum.inr x ∧ v = Value.str x t)
  | .inl i, v, h => by
    obtain ⟨t, e⟩ := Value.isInt_shape (k := i) (v := v) h
    exact .inl ⟨i, t, rfl, e⟩
  | .inr x, v, h => by
    obtain ⟨t, e⟩ := Value.isStrOf_shape (x := x) (v := v) h
    exact .inr ⟨x, t, rfl, e⟩
theorem key_ll (a b : Int) : decide ((Sum.inl a : Key) = Sum.inl b) = (a == b) := by
  by_cases e : a = b
  · subst e; simp
  · have h : ¬ (Sum.inl a : Key) = Sum.inl b := fun q => e (Sum.inl.inj q)
    rw [decide_eq_false h]
    exact (beq_eq_false_iff_ne.mpr e).symm
theorem key_rr (a b : Str) : decide ((Sum.inr a : Key) = Sum.inr b) = decide (a = b) := by
  by_cases e : a = b
  · subst e; simp
  · have h : ¬ (Sum.inr a : Key) = Sum.inr b := fun q => e (Sum.inr.inj q)
    rw [decide_eq_false h, decide_eq_false e]
theorem key_lr (a : Int) (b : Str) : decide ((Sum.inl a : Key) = Sum.inr b) = false := decide_eq_false (fun q => nomatch q)
theorem key_rl (a : Str) (b : Int) : decide ((Sum.inr a : Key) = Sum.inl b) = false := decide_eq_false (fun q => nomatch q)
def mixKind (prog : Program) (w : World) : PySem.KeyKind prog w Key where
  is := keyIs
  hash := keyH w
  inj := fun v a b ha hb => by
    rcases keyIs_shape ha with ⟨i, t, rfl, rfl⟩ | ⟨x, t, rfl, rfl⟩
    · rcases keyIs_shape hb with ⟨j, u, rfl, e⟩ | ⟨y, u, rfl, e⟩
      · injection e with e1 _; rw [e1]
      · exact nomatch e
    · rcases keyIs_shape hb with ⟨j, u, rfl, e⟩ | ⟨y, u, rfl, e⟩
      · exact nomatch e
      · injection e with e1 _; rw [e1]
  byValue := fun k v h => by
    rcases keyIs_shape h with ⟨i, t, rfl, rfl⟩ | ⟨x, t, rfl, rfl⟩ <;> rfl
  pyHash := fun hv h => by
    rcases keyIs_shape hv with ⟨i, t, rfl, rfl⟩ | ⟨x, t, rfl, rfl⟩
    · exact wpAny_pyHash_int h
    · exact wpAny_pyHash_str h
  eqBool := fun hu hv h => by
    rcases keyIs_shape hu with ⟨i, t, rfl, rfl⟩ | ⟨x, t, rfl, rfl⟩
    · rcases keyIs_shape hv with ⟨j, u, rfl, rfl⟩ | ⟨y, u, rfl, rfl⟩
      · rw [key_ll] at h; exact wpAny_eqBool_int h
      · rw [key_lr] at h; exact SeqAt.EqAt.int_str i t y u _ _ _ _ h
    · rcases keyIs_shape hv with ⟨j, u, rfl, rfl⟩ | ⟨y, u, rfl, rfl⟩
      · rw [key_rl] at h; exact SeqAt.EqAt.str_int x t j u _ _ _ _ h
      · rw [key_rr] at h; exact wpAny_eqBool_str h
  «strs» := fun k x t v h => by
    rcases keyIs_shape h with ⟨i, u, rfl, e⟩ | ⟨y, u, rfl, e⟩
    · exact nomatch e
    · injection e with e1 _
      subst e1
      cases v <;> rfl
end L2
namespace L2
open PySem PySem.Spec PyProof.Rows
/-- a value, without the heap -/
inductive V where
  | non | bl (b : Bool) | int (i : Int) | str (x : Str) | byt (b : Array UInt8) | flt (b : UInt64) | ref (a : Addr) | ty (n : String)
  deriving DecidableEq
def RelV : V → Value → Prop
  | .non, u => u = Value.none
  | .bl b, u => u = Value.bool b
  | .int i, u => ∃ t, u = Value.int i t
  | .str x, u => ∃ t, u = Value.str x t
  | .byt b, u => ∃ t, u = Value.bytes b t
  | .flt b, u => ∃ t, u = Value.float b t
  | .ref a, u => u = Value.ref a
  | .ty n, u => u = Value.type n
abbrev Vals : List V → List Value → Prop := Paired RelV
theorem Vals.length {xs : List V} {us : List Value} (r : Vals xs us) : xs.length = us.length := Paired.length r
theorem Vals.get : ∀ {xs : List V} {us : List Value} {i : Nat} {x : V}, Vals xs us → xs[i]? = some x → ∃ u, us[i]? = some u ∧ RelV x u
  | _, _, _, _, .nil, e => by simp at e
  | _, _, 0, _, .cons r _, e => by simp at e; subst e; exact ⟨_, rfl, r⟩
  | _, _, i + 1, x, .cons _ t, e => by
    obtain ⟨u, h1, h2⟩ := Vals.get (i := i) (x := x) t (by simpa using e)
    exact ⟨u, by simpa using h1, h2⟩
theorem Vals.set {x : V} {u : Value} (r : RelV x u) : ∀ {xs : List V} {us : List Value} (i : Nat), Vals xs us → Vals (xs.set i x) (us.set i u)
  | _, _, _, .nil => .nil
  | _, _, 0, .cons _ t => .cons r t
  | _, _, i + 1, .cons q t => .cons q (Vals.set r i t)
theorem Vals.append : ∀ {xs ys : List V} {us ws : List Value}, Vals xs us → Vals ys ws → Vals (xs ++ ys) (us ++ ws)
  | _, _, _, _, .nil, s => s
  | _, _, _, _, .cons r t, s => .cons r (Vals.append t s)
theorem Vals.take : ∀ {xs : List V} {us : List Value} (n : Nat), Vals xs us → Vals (xs.take n) (us.take n)
  | _, _, 0, _ => .nil
  | _, _, _ + 1, .nil => .nil
  | _, _, n + 1, .cons r t => .cons r (Vals.take n t)
theorem Vals.drop : ∀ {xs : List V} {us : List Value} (n : Nat), Vals xs us → Vals (xs.drop n) (us.drop n)
  | _, _, 0, r => r
  | _, _, _ + 1, .nil => .nil
  | _, _, n + 1, .cons _ t => Vals.drop n t
def RelO : Option V → Option Value → Prop
  | some v, some u => RelV v u
  | none, none => True
  | _, _ => False
def KV {κ : Type} : List (κ × V) → List (κ × Value) → Prop := Paired fun (p : κ × V) (q : κ × Value) => p.1 = q.1 ∧ RelV p.2 q.2
/-- a key of a dict (00_mix): an int or a text -/
def kV : Key → V
  | .inl i => .int i
  | .inr x => .str x
/-- what stands at a tracked address -/
inductive HO where
  /-- a list -/
  | lst (xs : List V)
  /-- a tuple (never changes) -/
  | tup (xs : List V)
  /-- a dict whose keys are ints and texts; one whose keys are tuples of ints and texts (the empty one is both) -/
  | dK (kvs : List (Key × V)) | dT (kvs : List (List Key × V))
  /-- a set of ints: its members, its size -/
  | set (S : Int → Bool) (n : Nat)
  /-- an instance of the class at C, its dict at dx, its attributes -/
  | ins (C dx : Addr) (fs : List (Str × V))
  /-- the dict of the instance at x -/
  | own (x : Addr)
  /-- the dict of an exception -/
  | xd (fs : List (Str × V))
  /-- a bound method, f of x -/
  | met (f x : Addr)
  /-- a range object lo, lo + 1, .. below hi -/
  | rng (lo hi : Int)
  /-- a thing that is known to the object (the script; a dict while a loop walks it): read, never written while it is so -/
  | frz (o : Obj) (u : HO)
  /-- a code object's table -/
  | tbl (ps : Array Value)
  /-- any other thing, by what is true of its one object (a def of one's own: SetO a S n := HO.ext fun h => ..) -/
  | ext (φ : Heap → Prop)
abbrev Hp := Addr → Option HO
def upd (H : Hp) (a : Addr) (o : HO) : Hp := fun b => if b = a then some o else H b
theorem upd_same {H : Hp} {a : Addr} {o : HO} : upd H a o a = some o := by unfold upd; rw [if_pos rfl]
theorem upd_ne {H : Hp} {a b : Addr} {o : HO} (h : b ≠ a) : upd H a o b = H b := by unfold upd; rw [if_neg h]
/-- two objects of different content stand apart -/
theorem ne_of {H : Hp} {a b : Addr} {o u : HO} (h : H a = some o) (h' : H b = some u) (d : o ≠ u) : a ≠ b := by
  intro e; subst e; rw [h] at h'; exact d (Option.some.inj h')
theorem ne_of_none {H : Hp} {a b : Addr} {o : HO} (h : H a = some o) (h' : H b = none) : a ≠ b := by
  intro e; subst e; rw [h] at h'; cases h'
section
variable (P : Program) (w : World)
def ObjOk (H : Hp) (h : Heap) (a : Addr) : HO → Prop
  | .lst xs => xs.length ≤ sizeLine ∧ ∃ (its : List Value) (n : Nat), Vals xs its ∧ h.get? a = some { cls := .type "list", data := .seq its.toArray n }
  | .tup xs => xs.length ≤ sizeLine ∧ ∃ its : List Value, Vals xs its ∧ IsTup h a its.toArray
  | .dK kvs => kvs.length ≤ sizeLine ∧ (a == sysModules) = false ∧ ∃ vs, KV kvs vs ∧ h.DictOf (mixKind P w) a vs
  | .dT kvs => kvs.length ≤ sizeLine ∧ (a == sysModules) = false ∧ ∃ xs : List (List Key × Addr × Value),
      Paired (fun (p : List Key × V) (q : List Key × Addr × Value) => p.1 = q.1 ∧ H q.2.1 = some (.tup (p.1.map kV)) ∧ RelV p.2 q.2.2) kvs xs ∧
      ∃ o es ep, h.get? a = some o ∧ o.ExactDict ∧ o.data = .dict es ep ∧ es.toList = xs.map (entryOfKey (tupleKind (mixKind P w))) ∧ (xs.map (·.1)).Nodup
  | .set S n => h.SetOf (intKind P w) a S n
  | .ins C dx fs => H dx = some (.own a) ∧ fs.length ≤ 1000 ∧ dx ≠ a ∧ h.get? a = some (PySem.W.instObj C dx) ∧
      ∃ mA, h.Ns1 dx mA ∧ (∀ f, RelO (fs.lookup f) (mA f)) ∧ PySem.Within mA (fs.map (·.1))
  | .own _ => ∃ o, h.get? a = some o
  | .xd fs => ∃ mA, h.Ns1 a mA ∧ ∀ f, RelO (fs.lookup f) (mA f)
  | .rng lo hi => ∃ t u v, h.get? a = some { cls := .type "range", data := .fields #[.int lo t, .int hi u, .int 1 v] }
  | .frz o u => h.get? a = some o ∧ ObjOk H h a u
  | .tbl ps => h.get? a = some { cls := .none, data := .fields ps }
  | .met f x => h.get? a = some (PySem.W.methodObj (.ref f) (.ref x))
  | .ext φ => φ h ∧ (∃ o, h.get? a = some o) ∧ ∀ h1 h2 : Heap, φ h1 → (∀ o, h1.get? a = some o → h2.get? a = some o) → φ h2
/-- the abstract heap is held -/
def HOk (H : Hp) (h : Heap) : Prop := ∀ a o, H a = some o → ObjOk P w H h a o
end
section
variable {P : Program} {w : World} {H H' : Hp} {h h' : Heap} {a : Addr} {o : HO}
theorem ObjOk.lt (x : ObjOk P w H h a o) : a < h.objs.size := by
  cases o with
  | lst xs => obtain ⟨_, _, _, _, e⟩ := x; exact Heap.lt_size e
  | tup xs => obtain ⟨_, _, _, p⟩ := x; exact p.lt
  | dK kvs => obtain ⟨_, _, _, _, o, _, _, e, _⟩ := x; exact Heap.lt_size e
  | dT kvs => obtain ⟨_, _, _, _, o, _, _, e, _⟩ := x; exact Heap.lt_size e
  | set S n => obtain ⟨o, _, _, _, e, _⟩ := x; exact Heap.lt_size e
  | ins C dx fs => obtain ⟨_, _, _, e, _⟩ := x; exact Heap.lt_size e
  | own y => obtain ⟨_, e⟩ := x; exact Heap.lt_size e
  | xd fs => obtain ⟨_, ⟨_, _, _, e, _⟩, _⟩ := x; exact Heap.lt_size e
  | rng lo hi => obtain ⟨_, _, _, e⟩ := x; exact Heap.lt_size e
  | frz ob u => obtain ⟨e, _⟩ := x; exact Heap.lt_size e
  | tbl ps => exact Heap.lt_size (show h.get? a = some _ from x)
  | met f y => exact Heap.lt_size (show h.get? a = some _ from x)
  | ext φ => obtain ⟨_, ⟨_, e⟩, _⟩ := x; exact Heap.lt_size e
theorem Paired.mapP {α β : Type} {F G : α → β → Prop} : ∀ {l₁ : List α} {l₂ : List β}, Paired F l₁ l₂ → (∀ a b, F a b → G a b) → Paired G l₁ l₂
  | _, _, .nil, _ => .nil
  | _, _, .cons r t, f => .cons (f _ _ r) (Paired.mapP t f)
/-- what an object's description leans on: its own object, its own dict, the tuples -/
theorem ObjOk.stay (x : ObjOk P w H h a o) (k : ∀ b u, (b = a ∨ H b = some (.own a)) → h.get? b = some u → h'.get? b = some u)
    (ho : ∀ b, H b = some (.own a) → H' b = some (.own a)) (ht : ∀ b xs, H b = some (.tup xs) → H' b = some (.tup xs)) : ObjOk P w H' h' a o := by
  induction o with
  | lst xs => obtain ⟨z, its, n, r, e⟩ := x; exact ⟨z, its, n, r, k _ _ (.inl rfl) e⟩
  | tup xs => obtain ⟨z, its, r, ob, e, c⟩ := x; exact ⟨z, its, r, ob, k _ _ (.inl rfl) e, c⟩
  | dK kvs => obtain ⟨z, y, vs, r, ob, es, ep, e, c⟩ := x; exact ⟨z, y, vs, r, ob, es, ep, k _ _ (.inl rfl) e, c⟩
  | dT kvs =>
    obtain ⟨z, y, xs, r, ob, es, ep, e, c⟩ := x
    exact ⟨z, y, xs, Paired.mapP r fun p q z => ⟨z.1, ht _ _ z.2.1, z.2.2⟩, ob, es, ep, k _ _ (.inl rfl) e, c⟩
  | set S n => obtain ⟨ob, es, ep, t, e, c⟩ := x; exact ⟨ob, es, ep, t, k _ _ (.inl rfl) e, c⟩
  | ins C dx fs =>
    obtain ⟨d, z, ne, e, mA, ⟨od, es, ep, e2, c⟩, r⟩ := x
    exact ⟨ho _ d, z, ne, k _ _ (.inl rfl) e, mA, ⟨od, es, ep, k _ _ (.inr d) e2, c⟩, r⟩
  | own y => obtain ⟨ob, e⟩ := x; exact ⟨ob, k _ _ (.inl rfl) e⟩
  | xd fs => obtain ⟨mA, ⟨od, es, ep, e, c⟩, r⟩ := x; exact ⟨mA, ⟨od, es, ep, k _ _ (.inl rfl) e, c⟩, r⟩
  | rng lo hi => obtain ⟨t, u, v, e⟩ := x; exact ⟨t, u, v, k _ _ (.inl rfl) e⟩
  | frz ob u ih => obtain ⟨e, q⟩ := x; exact ⟨k _ _ (.inl rfl) e, ih q⟩
  | tbl ps =>
    have e : h.get? a = some { cls := .none, data := .fields ps } := x
    show h'.get? a = some { cls := .none, data := .fields ps }
    exact k a _ (.inl rfl) e
  | met f y =>
    have e : h.get? a = some (PySem.W.methodObj (.ref f) (.ref y)) := x
    show h'.get? a = some (PySem.W.methodObj (.ref f) (.ref y))
    exact k a _ (.inl rfl) e
  | ext φ => obtain ⟨p, ⟨o, e⟩, st⟩ := x; exact ⟨st _ _ p fun o q => k _ _ (.inl rfl) q, ⟨o, k _ _ (.inl rfl) e⟩, st⟩
theorem HOk.lt (x : HOk P w H h) (e : H a = some o) : a < h.objs.size := (x a o e).lt
theorem HOk.fresh (x : HOk P w H h) (e : h.objs.size ≤ a) : H a = none := by
  cases q : H a with
  | none => rfl
  | some u => exact absurd (Nat.lt_of_lt_of_le (x.lt q) e) (Nat.lt_irrefl _)
/-- every object of the heap is kept -/
theorem HOk.kept (x : HOk P w H h) (k : ∀ b u, h.get? b = some u → h'.get? b = some u) : HOk P w H h' := fun a o e =>
  (x a o e).stay (fun b u _ q => k b u q) (fun _ q => q) fun _ _ q => q
/-- a new object is laid and tracked -/
theorem HOk.laid (x : HOk P w H h) (k : ∀ b u, h.get? b = some u → h'.get? b = some u) (hp : h.objs.size ≤ a) (new : ObjOk P w (upd H a o) h' a o) : HOk P w (upd H a o) h' := fun b u e => by
  have hn := x.fresh hp
  by_cases hb : b = a
  · subst hb; rw [upd_same] at e; cases e; exact new
  · rw [upd_ne hb] at e
    exact (x b u e).stay (fun c v _ q => k c v q) (fun c q => by rw [upd_ne (ne_of_none q hn)]; exact q) fun c xs q => by rw [upd_ne (ne_of_none q hn)]; exact q
end
/-- what may be read as u: it is u, or a known u -/
def Rd (H : Hp) (a : Addr) (u : HO) : Prop := H a = some u ∨ ∃ o, H a = some (.frz o u)
theorem Rd.of {H : Hp} {a : Addr} {u : HO} (h : H a = some u) : Rd H a u := .inl h
theorem Rd.ok {P : Program} {w : World} {H : Hp} {h : Heap} {a : Addr} {u : HO} (r : Rd H a u) (x : HOk P w H h) : ObjOk P w H h a u := by
  rcases r with r | ⟨o, r⟩
  · exact x a u r
  · obtain ⟨_, q⟩ := x a _ r
    exact q
/-- what may be written -/
def Mut : Option HO → Prop
  | some (.lst _) => True
  | some (.dK _) => True
  | some (.dT _) => True
  | some (.set _ _) => True
  | some (.ins _ _ _) => True
  | some (.ext _) => True
  | _ => False
section
variable {P : Program} {w : World} {H : Hp} {h h' : Heap} {x e : Addr} {o' : HO}
/-- the object at e is changed: x itself, or the dict of the instance x -/
theorem HOk.write (ok : HOk P w H h) (mu : Mut (H x)) (he : e = x ∨ H e = some (.own x)) (k : ∀ b u, b ≠ e → h.get? b = some u → h'.get? b = some u) (heo : ∃ u, h'.get? e = some u)
    (new : ObjOk P w (upd H x o') h' x o') : HOk P w (upd H x o') h' := fun b u q => by
  have nown : ∀ c y, H c = some (.own y) → c ≠ x := fun c y r z => by subst z; rw [r] at mu; exact mu
  have ntup : ∀ c xs, H c = some (.tup xs) → c ≠ x := fun c xs r z => by subst z; rw [r] at mu; exact mu
  by_cases hb : b = x
  · subst hb; rw [upd_same] at q; cases q; exact new
  · rw [upd_ne hb] at q
    by_cases hbe : b = e
    · have q' : H b = some (.own x) := by
        rcases he with z | z
        · exact absurd (hbe.trans z) hb
        · rw [hbe]; exact z
      rw [q] at q'; cases q'
      obtain ⟨v, hv⟩ := heo
      exact ⟨v, by rw [hbe]; exact hv⟩
    · refine (ok b u q).stay (fun c v hc r => k c v ?_ r) (fun c r => by rw [upd_ne (nown c b r)]; exact r) fun c xs r => by rw [upd_ne (ntup c xs r)]; exact r
      rcases hc with rfl | hc
      · exact hbe
      · rintro rfl
        rcases he with z | z
        · exact nown c b hc z
        · rw [hc] at z; cases z; exact hb rfl
end
structure Un (fs ex : List Addr) (H H' : Hp) (h h' : Heap) : Prop where
  keep : ∀ b o, h.get? b = some o → H b = none → b ∉ fs → b ∉ ex → h'.get? b = some o
  slot : ∀ b o, h.get? b = some o → H b = none → b ∈ fs → b ∉ ex → ∃ sl, h'.get? b = some { o with slots := sl }
  free : ∀ b o, h.get? b = some o → H b = none → b ∉ ex → H' b = none
  there : ∀ b o, h.get? b = some o → b ∉ ex → ∃ o', h'.get? b = some o'
  tups : ∀ b xs, H b = some (.tup xs) → H' b = some (.tup xs)
  frzs : ∀ b o u, H b = some (.frz o u) → H' b = some (.frz o u)
  tbls : ∀ b ps, H b = some (.tbl ps) → ∃ more, H' b = some (.tbl (ps ++ more))
section
variable {fs fs' ex ex' : List Addr} {H H1 H2 : Hp} {h h1 h2 h' : Heap} {a x e : Addr} {o : HO}
theorem Un.any (u : Un fs ex H H1 h h1) {b : Addr} {ob : Obj} (q : h.get? b = some ob) (n : H b = none) (hx : b ∉ ex) : ∃ sl, h1.get? b = some { ob with slots := sl } := by
  by_cases hb : b ∈ fs
  · exact u.slot b ob q n hb hx
  · exact ⟨ob.slots, u.keep b ob q n hb hx⟩
theorem Un.trans (a : Un fs ex H H1 h h1) (b : Un fs ex H1 H2 h1 h2) : Un fs ex H H2 h h2 where
  keep := fun c ob q n hc hx => b.keep c ob (a.keep c ob q n hc hx) (a.free c ob q n hx) hc hx
  slot := fun c ob q n hc hx => by
    obtain ⟨sl, e1⟩ := a.slot c ob q n hc hx
    obtain ⟨sl', e2⟩ := b.slot c _ e1 (a.free c ob q n hx) hc hx
    exact ⟨sl', e2⟩
  free := fun c ob q n hx => by
    obtain ⟨o', e1⟩ := a.there c ob q hx
    exact b.free c o' e1 (a.free c ob q n hx) hx
  there := fun c ob q hx => by
    obtain ⟨o', e1⟩ := a.there c ob q hx
    exact b.there c o' e1 hx
  tups := fun c xs q => b.tups c xs (a.tups c xs q)
  frzs := fun c ob xs q => b.frzs c ob xs (a.frzs c ob xs q)
  tbls := fun c ps q => by
    obtain ⟨m1, e1⟩ := a.tbls c ps q
    obtain ⟨m2, e2⟩ := b.tbls c _ e1
    exact ⟨m1 ++ m2, by rw [e2, Array.append_assoc]⟩
theorem Un.kept (k : ∀ b u, h.get? b = some u → h'.get? b = some u) : Un fs ex H H h h' :=
  ⟨fun b ob q _ _ _ => k b ob q, fun b ob q _ _ _ => ⟨ob.slots, k b ob q⟩, fun _ _ _ n _ => n, fun b ob q _ => ⟨ob, k b ob q⟩, fun _ _ q => q, fun _ _ _ q => q, fun _ ps q => ⟨#[], by rw [q]; simp⟩⟩
theorem Un.refl : Un fs ex H H h h := Un.kept fun _ _ q => q
theorem Un.laid (k : ∀ b u, h.get? b = some u → h'.get? b = some u) (hp : h.objs.size ≤ a) (hn : H a = none) : Un fs ex H (upd H a o) h h' where
  keep := fun b u q _ _ _ => k b u q
  slot := fun b u q _ _ _ => ⟨u.slots, k b u q⟩
  free := fun b u q n _ => by rw [upd_ne (Nat.ne_of_lt (Nat.lt_of_lt_of_le (Heap.lt_size q) hp))]; exact n
  there := fun b u q _ => ⟨u, k b u q⟩
  tups := fun b xs q => by rw [upd_ne (ne_of_none q hn)]; exact q
  frzs := fun b u xs q => by rw [upd_ne (ne_of_none q hn)]; exact q
  tbls := fun b ps q => ⟨#[], by rw [upd_ne (ne_of_none q hn), q]; simp⟩
theorem Un.write (mu : Mut (H x)) (he : e = x ∨ H e = some (.own x)) (k : ∀ b u, b ≠ e → h.get? b = some u → h'.get? b = some u) (heo : ∃ u, h'.get? e = some u) : Un fs ex H (upd H x o) h h' := by
  have hx : ∀ b, H b = none → b ≠ x := fun b n z => by subst z; rw [n] at mu; exact mu
  have hb : ∀ b, H b = none → b ≠ e := fun b n z => by
    subst z
    rcases he with r | r
    · exact hx b n r
    · rw [n] at r; cases r
  have hm : ∀ b u, H b = some u → ¬ Mut (some u) → b ≠ x := fun b u q nm z => by subst z; rw [q] at mu; exact nm mu
  refine ⟨fun b u q n _ _ => k b u (hb b n) q, fun b u q n _ _ => ⟨u.slots, k b u (hb b n) q⟩, fun b u q n _ => by rw [upd_ne (hx b n)]; exact n, fun b u q _ => ?_,
    fun b xs q => by rw [upd_ne (hm b _ q fun z => z)]; exact q, fun b u xs q => by rw [upd_ne (hm b _ q fun z => z)]; exact q, fun b ps q => ⟨#[], by rw [upd_ne (hm b _ q fun z => z), q]; simp⟩⟩
  by_cases hbe : b = e
  · subst hbe; exact heo
  · exact ⟨u, k b u hbe q⟩
theorem Un.mono (u : Un fs ex H H1 h h1) (hs : ∀ b ∈ fs, b ∈ fs') (hx : ∀ b ∈ ex, b ∈ ex') : Un fs' ex' H H1 h h1 :=
  ⟨fun b ob q n hb he => u.keep b ob q n (fun z => hb (hs b z)) fun z => he (hx b z), fun _ _ q n _ he => u.any q n fun z => he (hx _ z), fun b ob q n he => u.free b ob q n fun z => he (hx b z), fun b ob q he => u.there b ob q fun z => he (hx b z), u.tups, u.frzs, u.tbls⟩
end
def trk (h : Heap) (H : Hp) : List Addr := (List.range h.objs.size).filter fun a => (H a).isSome
def hidT (h : Heap) (H : Hp) : Heap := PySem.W.hideAll h (trk h H)
theorem hidT_size (h : Heap) (H : Hp) : (hidT h H).objs.size = h.objs.size := PySem.W.hideAll_size _ _
theorem hidT_get {h : Heap} {H : Hp} {b : Addr} {o : Obj} (e : h.get? b = some o) (n : H b = none) : (hidT h H).get? b = some o :=
  PySem.W.hideAll_get _ e fun hm => by
    have q : (H b).isSome = true := (List.mem_filter.mp hm).2
    rw [n] at q; simp at q
theorem of_hidT {h : Heap} {H : Hp} {b : Addr} {o : Obj} (e : (hidT h H).get? b = some o) : h.get? b = some o ∧ H b = none := by
  have e' : h.get? b = some o := PySem.W.of_hideAll (trk h H) e
  refine ⟨e', ?_⟩
  cases q : H b with
  | none => rfl
  | some x =>
    have hm : b ∈ trk h H := List.mem_filter.mpr ⟨List.mem_range.mpr (Heap.lt_size e'), by simp [q]⟩
    have z : (hidT h H).get? b = none := PySem.W.hideAll_none (trk h H) hm
    rw [z] at e; cases e
def allNews (g h : Heap) (L : Addr) : List (Addr × Obj) := (List.range h.objs.size).filterMap fun a => if a = L ∨ (g.get? a).isSome = true then none else (h.get? a).map fun o => (a, o)
def rest (g h : Heap) (L d : Addr) : List (Addr × Obj) := (allNews g h L).filter fun p => decide (p.1 ≠ d)
end L2
namespace L2
open PySem PySem.Spec PyProof.Rows
/-- the module's facts, over the base: the heap at the law's entry without what is tracked there -/
structure Mod (K : PySem.W.Frag) (mg : Str → Option Value) (base : Heap) : Prop where
  kin : K.In base
  glob : base.Ns mainGlobals mg
  blt : ∃ mb, base.Ns builtinsNs mb ∧ ∀ x : Str, x ≠ "__name__" → mb x = bootBuiltins x
  nolimit : base.NoLimit
/-- the context: a def's body (or a comprehension's block) running. base: fixed through the whole law; s₀, H₀: the entry; outer: the frames whose slots others may change (a def's callers); stack: all frames that run;
   ex: iterators that were made ahead of the entry and are walked here (a comprehension's); fn: the names whose cells were made at the entry (a def: all; a comprehension's block: its own); calm: not within an except suite; pn: pins that every state bears; xe: what is wanted of an exception that leaves the code -/
structure Cx where
  prog : Program
  w : World
  K : PySem.W.Frag
  mg : Str → Option Value
  base : Heap
  A : Around
  N : List Str
  s_0 : Shared
  H_0 : Hp
  env : Env
  outer : List Env
  stack : List Env
  ex : List Addr
  fn : Str → Bool
  calm : Bool
  pn : List (Addr × Obj)
  xe : Value → Shared → Prop
/-- the callers' frames -/
def frs (l : List Env) : List Addr := l.filterMap (·.frame)
abbrev Cx.fs (X : Cx) : List Addr := frs X.outer
def Vis (sc : Scope) (x : Str) : Prop := sc.names.lookup x = some .local ∨ sc.names.lookup x = some .cell ∨ sc.names.lookup x = some .free
def Loc (sc : Scope) (x : Str) : Prop := sc.names.lookup x = some .local ∨ sc.names.lookup x = some .cell
def Look (env : Env) (h : Heap) (m : Str → Option Value) (x : Str) (u : Value) : Prop :=
  (env.kindOf x = some .local ∧ m x = some u) ∨ ((env.kindOf x = some .cell ∨ env.kindOf x = some .free) ∧ ∃ c, env.cells.lookup x = some c ∧ h.IsCell c (some u))
structure Cx.Ok (X : Cx) : Prop where
  mod : Mod X.K X.mg X.base
  kind : X.env.scope.kind = .function
  glob : X.env.globals = mainGlobals
  blt : X.env.builtins = builtinsNs
  above : X.s_0.heap.objs.size ≤ X.env.locals
  inj : ∀ x y c, X.env.cells.lookup x = some c → X.env.cells.lookup y = some c → x = y
  has : ∀ x, (X.env.kindOf x = some .cell ∨ X.env.kindOf x = some .free) → ∃ c, X.env.cells.lookup x = some c
  cab : ∀ x c, X.fn x = true → X.env.cells.lookup x = some c → X.s_0.heap.objs.size ≤ c
  hd : X.calm = true → X.A.handled = none
  frames : X.A.frames = some X.stack
  stk : X.stack = X.outer ∨ (X.stack = X.env :: X.outer ∧ X.env.frame = some X.env.locals)
  exf : ∀ b ∈ X.ex, b ≠ X.env.locals ∧ ∀ x c, X.env.cells.lookup x = some c → c ≠ b
  bs : ∀ b o, X.base.get? b = some o → X.s_0.heap.get? b = some o ∧ X.H_0 b = none
  bsz : X.base.objs.size ≤ X.s_0.heap.objs.size
  noex : ∀ b o, X.base.get? b = some o → b ∉ X.ex
  exfs : ∀ b ∈ X.ex, b ∉ X.fs
  funs : X.s_0.heap.FunFrames X.base X.outer
  frf : ∀ b ∈ X.fs, X.H_0 b = none
structure Inv (X : Cx) (pins : List (Addr × Obj)) (σ : List (Option V)) (H : Hp) (s : Shared) : Prop where
  ok : X.Ok
  os : s.os = X.s_0.os
  bare : AllBare s.gens
  base : Un X.fs X.ex X.H_0 H X.s_0.heap s.heap
  loc : ∃ m, s.heap.Ns X.env.locals m ∧ ∀ (i : Nat) (x : Str) (v : V), X.N[i]? = some x → σ[i]? = some (some v) → Vis X.env.scope x → ∃ u, RelV v u ∧ Look X.env s.heap m x u
  cell : ∀ x c, X.env.cells.lookup x = some c → ∃ v, s.heap.IsCell c v
  free : H X.env.locals = none
  freeC : ∀ x c, X.env.cells.lookup x = some c → H c = none
  pin : ∀ p ∈ X.pn ++ pins, s.heap.get? p.1 = some p.2 ∧ H p.1 = none ∧ p.1 ≠ X.env.locals ∧ p.1 ∉ X.fs ∧ ∀ v, p.2.data ≠ .cell v
  hok : HOk X.prog X.w H s.heap
  len : σ.length = X.N.length
section
variable {X : Cx} {pins : List (Addr × Obj)} {σ : List (Option V)} {H H' : Hp} {s : Shared} {h' : Heap}
theorem Cx.Ok.nofr (ok : X.Ok) {b : Addr} {o : Obj} (e : X.base.get? b = some o) : b ∉ X.fs := fun hb => by
  have := (ok.funs.mem hb).1
  rw [e] at this; cases this
theorem Inv.bs (I : Inv X pins σ H s) : ∀ b o, X.base.get? b = some o → s.heap.get? b = some o ∧ H b = none := fun b o e =>
  ⟨I.base.keep b o (I.ok.bs b o e).1 (I.ok.bs b o e).2 (I.ok.nofr e) (I.ok.noex b o e), I.base.free b o (I.ok.bs b o e).1 (I.ok.bs b o e).2 (I.ok.noex b o e)⟩
theorem Inv.bk (I : Inv X pins σ H s) : ∀ b o, X.base.get? b = some o → s.heap.get? b = some o := fun b o e => (I.bs b o e).1
theorem Inv.mod (I : Inv X pins σ H s) : Mod X.K X.mg X.base := I.ok.mod
theorem Inv.kIn (I : Inv X pins σ H s) : X.K.In s.heap := I.ok.mod.kin.keeps I.bk
theorem Inv.nolimit (I : Inv X pins σ H s) : s.heap.NoLimit := I.ok.mod.nolimit.keeps I.bk
theorem Inv.lt (I : Inv X pins σ H s) : X.env.locals < s.heap.objs.size := let ⟨_, hn, _⟩ := I.loc; hn.lt
theorem Inv.sz (I : Inv X pins σ H s) : X.s_0.heap.objs.size ≤ s.heap.objs.size := Nat.le_trans I.ok.above (Nat.le_of_lt I.lt)
theorem Inv.nofs (I : Inv X pins σ H s) {a : Addr} (h : s.heap.objs.size ≤ a) : a ∉ X.fs := fun hb => by
  obtain ⟨_, o, ho, _⟩ := I.ok.funs.mem hb
  exact absurd (Nat.lt_of_lt_of_le (Heap.lt_size ho) (Nat.le_trans I.sz h)) (Nat.lt_irrefl _)
theorem Inv.cne (I : Inv X pins σ H s) : ∀ x c, X.env.cells.lookup x = some c → c ≠ X.env.locals := fun x c e z => by
  obtain ⟨v, o, ho, hd⟩ := I.cell x c e
  obtain ⟨m, ⟨o', es, ep, ho', hd', _⟩, _⟩ := I.loc
  rw [z, ho'] at ho; cases ho; rw [hd'] at hd; cases hd
theorem Inv.funs (I : Inv X pins σ H s) : s.heap.FunFrames X.base X.outer := by
  have all : ∀ (l : List Env), (∀ b ∈ frs l, b ∈ X.fs) → X.s_0.heap.FunFrames X.base l → s.heap.FunFrames X.base l := by
    intro l
    induction l with
    | nil => intro _ _; trivial
    | cons env r ih =>
      intro hs hl
      obtain ⟨hk, ⟨L, o, hf, hn, ho, hd⟩, hr⟩ := hl
      have hL : L ∈ X.fs := hs L (by unfold frs; rw [List.filterMap_cons, hf]; exact List.mem_cons_self)
      obtain ⟨sl, e⟩ := I.base.slot L o ho (I.ok.frf L hL) hL fun z => I.ok.exfs L z hL
      exact ⟨hk, ⟨L, _, hf, hn, e, hd⟩, ih (fun b hb => hs b (by unfold frs; rw [List.filterMap_cons, hf]; exact List.mem_cons_of_mem _ hb)) hr⟩
  exact all X.outer (fun _ hb => hb) I.ok.funs
/-- the frames that run, for a call -/
theorem Inv.stack (I : Inv X pins σ H s) : s.heap.FunFrames X.base X.stack := by
  rcases I.ok.stk with e | ⟨e, hf⟩
  · rw [e]; exact I.funs
  · rw [e]
    obtain ⟨m, hn, _⟩ := I.loc
    refine .cons (by rw [I.ok.kind]; decide) hf hn ?_ I.funs
    exact Heap.get?_none_of_le (Nat.le_trans I.ok.bsz I.ok.above)
theorem Inv.stkSub (I : Inv X pins σ H s) : ∀ b ∈ frs X.stack, b ∈ X.env.locals :: X.fs := fun b hb => by
  rcases I.ok.stk with e | ⟨e, hf⟩
  · rw [e] at hb; exact List.mem_cons_of_mem _ hb
  · rw [e] at hb
    unfold frs at hb
    rw [List.filterMap_cons, hf] at hb
    exact hb
theorem Inv.stkFree (I : Inv X pins σ H s) : ∀ b ∈ frs X.stack, H b = none := fun b hb => by
  rcases List.mem_cons.mp (I.stkSub b hb) with e | hb
  · rw [e]; exact I.free
  · obtain ⟨_, o, ho, _⟩ := I.ok.funs.mem hb
    exact I.base.free b o ho (I.ok.frf b hb) fun z => I.ok.exfs b z hb
/-- THE STEP: the untracked objects but the frame and the records at ch are kept (the callers' frames up to slots), the frame's map is kept, the new abstract heap is held -/
theorem Inv.step {g' : Array GenState} {t' : Nat} {d' : Drawn} {ch : List Addr} (I : Inv X pins σ H s)
    (hch : ∀ b ∈ ch, (b ∈ X.ex ∨ X.s_0.heap.objs.size ≤ b) ∧ b ≠ X.env.locals ∧ (∀ x c, X.env.cells.lookup x = some c → c ≠ b) ∧ ∀ p ∈ X.pn ++ pins, p.1 ≠ b)
    (keep : ∀ b o, b ≠ X.env.locals → b ∉ X.fs → b ∉ ch → s.heap.get? b = some o → H b = none → h'.get? b = some o)
    (slot : ∀ b o, b ≠ X.env.locals → b ∈ X.fs → b ∉ ch → s.heap.get? b = some o → H b = none → ∃ sl, h'.get? b = some { o with slots := sl }) (free : ∀ b o, b ∉ ch → s.heap.get? b = some o → H b = none → H' b = none)
    (there : ∀ b o, b ∉ ch → s.heap.get? b = some o → ∃ o', h'.get? b = some o')
    (tups : ∀ b xs, H b = some (.tup xs) → H' b = some (.tup xs)) (frzs : ∀ b o u, H b = some (.frz o u) → H' b = some (.frz o u)) (tbls : ∀ b ps, H b = some (.tbl ps) → ∃ more, H' b = some (.tbl (ps ++ more)))
    (ns : ∀ m, s.heap.Ns X.env.locals m → h'.Ns X.env.locals m) (hok : HOk X.prog X.w H' h') (hg : AllBare g') :
    Inv X pins σ H' { s with heap := h', gens := g', drawn := d', toks := t' } := by
  have neL : ∀ b o, X.s_0.heap.get? b = some o → b ≠ X.env.locals := fun b o e => Nat.ne_of_lt (Nat.lt_of_lt_of_le (Heap.lt_size e) I.ok.above)
  have neC : ∀ b o, X.s_0.heap.get? b = some o → b ∉ X.ex → b ∉ ch := fun b o e hx hb => by
    rcases (hch b hb).1 with z | z
    · exact hx z
    · exact absurd (Nat.lt_of_lt_of_le (Heap.lt_size e) z) (Nat.lt_irrefl _)
  have cellK : ∀ x c, X.env.cells.lookup x = some c → ∀ v, s.heap.IsCell c v → h'.IsCell c v := fun x c e v ⟨o, ho, hd⟩ => by
    have nch : c ∉ ch := fun z => (hch c z).2.2.1 x c e rfl
    by_cases hc : c ∈ X.fs
    · obtain ⟨sl, q⟩ := slot c o (I.cne x c e) hc nch ho (I.freeC x c e)
      exact ⟨_, q, hd⟩
    · exact ⟨o, keep c o (I.cne x c e) hc nch ho (I.freeC x c e), hd⟩
  refine ⟨I.ok, I.os, hg, ⟨fun b o e n hb hx => ?_, fun b o e n hb hx => ?_, fun b o e n hx => ?_, fun b o e hx => ?_, fun b xs e => tups b xs (I.base.tups b xs e), fun b o xs e => frzs b o xs (I.base.frzs b o xs e), fun b ps e => ?_⟩, ?_, fun x c e => ?_, ?_, fun x c e => ?_, fun p hp => ?_, hok, I.len⟩
  · exact keep b o (neL b o e) hb (neC b o e hx) (I.base.keep b o e n hb hx) (I.base.free b o e n hx)
  · obtain ⟨sl, e1⟩ := I.base.slot b o e n hb hx
    obtain ⟨sl', e2⟩ := slot b _ (neL b o e) hb (neC b o e hx) e1 (I.base.free b o e n hx)
    exact ⟨sl', e2⟩
  · obtain ⟨o', e1⟩ := I.base.there b o e hx
    exact free b o' (neC b o e hx) e1 (I.base.free b o e n hx)
  · obtain ⟨o', e1⟩ := I.base.there b o e hx
    exact there b o' (neC b o e hx) e1
  · obtain ⟨m1, e1⟩ := I.base.tbls b ps e
    obtain ⟨m2, e2⟩ := tbls b _ e1
    exact ⟨m1 ++ m2, by rw [e2, Array.append_assoc]⟩
  · obtain ⟨m, hn, hl⟩ := I.loc
    refine ⟨m, ns m hn, fun i x v e1 e2 e3 => ?_⟩
    obtain ⟨u, r, l⟩ := hl i x v e1 e2 e3
    refine ⟨u, r, ?_⟩
    rcases l with l | ⟨k, c, e, z⟩
    · exact .inl l
    · exact .inr ⟨k, c, e, cellK x c e _ z⟩
  · obtain ⟨v, z⟩ := I.cell x c e
    exact ⟨v, cellK x c e v z⟩
  · obtain ⟨m, ⟨o, _, _, ho, _⟩, _⟩ := I.loc
    exact free _ o (fun z => (hch _ z).2.1 rfl) ho I.free
  · obtain ⟨v, o, ho, hd⟩ := I.cell x c e
    exact free c o (fun z => (hch c z).2.2.1 x c e rfl) ho (I.freeC x c e)
  · obtain ⟨e, n, ne, nf, d⟩ := I.pin p hp
    have nch : p.1 ∉ ch := fun z => (hch p.1 z).2.2.2 p hp rfl
    exact ⟨keep p.1 p.2 ne nf nch e n, free p.1 p.2 nch e n, ne, nf, d⟩
/-- .. where the frame's own object is kept too -/
theorem Inv.un {t' : Nat} (I : Inv X pins σ H s) (u : Un X.fs [] H H' s.heap h') (hok : HOk X.prog X.w H' h') : Inv X pins σ H' { s with heap := h', toks := t' } := by
  obtain ⟨m, ⟨o, es, ep, ho, r⟩, _⟩ := id I.loc
  obtain ⟨sl, hL⟩ := u.any ho I.free (by simp)
  exact I.step (g' := s.gens) (d' := s.drawn) (ch := []) (fun _ z => nomatch z) (fun b o _ hb _ e n => u.keep b o e n hb (by simp)) (fun b o _ hb _ e n => u.slot b o e n hb (by simp)) (fun b o _ e n => u.free b o e n (by simp)) (fun b o _ e => u.there b o e (by simp)) u.tups u.frzs u.tbls (fun m' hm => by
    obtain ⟨o', es', ep', ho', r'⟩ := hm
    rw [ho] at ho'; cases ho'
    exact ⟨_, es', ep', hL, r'⟩) hok I.bare
/-- behind a call (or a comprehension's block): the slots of this frame may have changed too, the records at ch may have turned -/
theorem Inv.call {g' : Array GenState} {t' : Nat} {d' : Drawn} {ch : List Addr} (I : Inv X pins σ H s) (u : Un (frs X.stack) ch H H' s.heap h') (hok : HOk X.prog X.w H' h') (hg : AllBare g')
    (hch : ∀ b ∈ ch, (b ∈ X.ex ∨ X.s_0.heap.objs.size ≤ b) ∧ b ≠ X.env.locals ∧ (∀ x c, X.env.cells.lookup x = some c → c ≠ b) ∧ ∀ p ∈ X.pn ++ pins, p.1 ≠ b) :
    Inv X pins σ H' { s with heap := h', gens := g', drawn := d', toks := t' } := by
  obtain ⟨m, ⟨o, es, ep, ho, r⟩, _⟩ := id I.loc
  obtain ⟨sl, hL⟩ := u.any ho I.free fun z => (hch _ z).2.1 rfl
  exact I.step (ch := ch) hch (fun b o hL hb hc e n => u.keep b o e n (fun z => (List.mem_cons.mp (I.stkSub b z)).elim hL hb) hc) (fun b o _ _ hc e n => u.any e n hc) (fun b o hc e n => u.free b o e n hc) (fun b o hc e => u.there b o e hc) u.tups u.frzs u.tbls (fun m' hm => by
    obtain ⟨o', es', ep', ho', r'⟩ := hm
    rw [ho] at ho'; cases ho'
    exact ⟨_, es', ep', hL, r'⟩) hok hg
/-- an untracked record of ours (an iterator) has turned -/
theorem Inv.turned {t' : Nat} {it : Addr} (I : Inv X pins σ H s) (k : ∀ b o, b ≠ it → s.heap.get? b = some o → h'.get? b = some o) (hn : H it = none) (hL : it ≠ X.env.locals)
    (h1 : it ∈ X.ex ∨ X.s_0.heap.objs.size ≤ it) (h2 : ∀ x c, X.env.cells.lookup x = some c → c ≠ it) (h3 : ∀ p ∈ X.pn ++ pins, p.1 ≠ it) : Inv X pins σ H { s with heap := h', toks := t' } := by
  have nit : ∀ b u, H b = some u → b ≠ it := fun b u e z => by rw [z, hn] at e; cases e
  refine I.step (g' := s.gens) (d' := s.drawn) (ch := [it]) (fun b hb => ?_) (fun b o _ _ hc e _ => k b o (fun z => hc (by simp [z])) e) (fun b o _ _ hc e _ => ⟨o.slots, k b o (fun z => hc (by simp [z])) e⟩) (fun _ _ _ _ n => n)
    (fun b o hc e => ⟨o, k b o (fun z => hc (by simp [z])) e⟩) (fun _ _ e => e) (fun _ _ _ e => e) (fun b ps e => ⟨#[], by rw [e]; simp⟩) (fun m hm => ?_) (fun b u e => ?_) I.bare
  · have e : b = it := by simpa using hb
    subst e
    exact ⟨h1, hL, h2, h3⟩
  · obtain ⟨o, es, ep, ho, r⟩ := hm
    exact ⟨o, es, ep, k _ o (Ne.symm hL) ho, r⟩
  · refine (I.hok b u e).stay (fun c v hc q => k c v ?_ q) (fun _ q => q) fun _ _ q => q
    rcases hc with z | z
    · rw [z]; exact nit b u e
    · exact nit c _ z
theorem Inv.tok (I : Inv X pins σ H s) (t : Nat) : Inv X pins σ H { s with toks := t } := I.un (h' := s.heap) (t' := t) Un.refl I.hok
/-- all objects kept -/
theorem Inv.kept {t' : Nat} (I : Inv X pins σ H s) (k : ∀ b u, s.heap.get? b = some u → h'.get? b = some u) : Inv X pins σ H { s with heap := h', toks := t' } := I.un (Un.kept k) (I.hok.kept k)
/-- a new object laid and tracked -/
theorem Inv.laid {a : Addr} {o : HO} {t' : Nat} (I : Inv X pins σ H s) (k : ∀ b u, s.heap.get? b = some u → h'.get? b = some u) (hp : s.heap.objs.size ≤ a) (new : ObjOk X.prog X.w (upd H a o) h' a o) :
    Inv X pins σ (upd H a o) { s with heap := h', toks := t' } := I.un (Un.laid k hp (I.hok.fresh hp)) (I.hok.laid k hp new)
/-- an object written -/
theorem Inv.write {x e : Addr} {o : HO} {t' : Nat} (I : Inv X pins σ H s) (mu : Mut (H x)) (he : e = x ∨ H e = some (.own x)) (k : ∀ b u, b ≠ e → s.heap.get? b = some u → h'.get? b = some u) (heo : ∃ u, h'.get? e = some u)
    (new : ObjOk X.prog X.w (upd H x o) h' x o) : Inv X pins σ (upd H x o) { s with heap := h', toks := t' } := I.un (Un.write mu he k heo) (I.hok.write mu he k heo new)
/-- forgetting slots, pins -/
theorem Inv.weak {σ' : List (Option V)} (I : Inv X pins σ H s) (hl : σ'.length = σ.length) (w : ∀ (i : Nat) v, σ'[i]? = some (some v) → σ[i]? = some (some v)) : Inv X pins σ' H s :=
  ⟨I.ok, I.os, I.bare, I.base, let ⟨m, hn, hl'⟩ := I.loc; ⟨m, hn, fun i x v e1 e2 e3 => hl' i x v e1 (w i v e2) e3⟩, I.cell, I.free, I.freeC, I.pin, I.hok, hl.trans I.len⟩
theorem Inv.pins_of {pins' : List (Addr × Obj)} (I : Inv X pins σ H s) (h : ∀ p ∈ pins', s.heap.get? p.1 = some p.2 ∧ H p.1 = none ∧ p.1 ≠ X.env.locals ∧ p.1 ∉ X.fs ∧ ∀ v, p.2.data ≠ .cell v) : Inv X pins' σ H s :=
  ⟨I.ok, I.os, I.bare, I.base, I.loc, I.cell, I.free, I.freeC, fun p hp => (List.mem_append.mp hp).elim (fun z => I.pin p (List.mem_append_left _ z)) (h p), I.hok, I.len⟩
theorem nodup_ix {N : List Str} (hN : N.Nodup) {i j : Nat} {x : Str} (a : N[i]? = some x) (b : N[j]? = some x) : i = j := by
  obtain ⟨h1, e1⟩ := List.getElem?_eq_some_iff.mp a
  obtain ⟨h2, e2⟩ := List.getElem?_eq_some_iff.mp b
  exact (List.getElem_inj hN).mp (e1.trans e2.symm)
/-- a name is stored; what changed -/
theorem store_ok2 {M : Model} {A : Around} {E : Value → Shared → Prop} {i : Nat} {x : Str} {v : V} {u : Value} {Q : Unit → Shared → Prop} (I : Inv X pins σ H s) (hN : X.N.Nodup) (hi : X.N[i]? = some x) (hx : Loc X.env.scope x) (r : RelV v u)
    (h : ∀ s', Inv X pins (σ.set i (some v)) H s' → (∃ a, Heap.SameBut a s.heap s'.heap ∧ (a = X.env.locals ∨ X.env.cells.lookup x = some a)) → Q () s') (hf : X.fn x = true ∨ X.env.scope.names.lookup x = some .local := by first | exact .inl rfl | exact .inr rfl | assumption) : wpAny M A (storeName X.env x u) Q E s := by
  obtain ⟨m, hn, hl⟩ := id I.loc
  have hcls : (X.env.scope.kind == .class || (X.env.scope.kind == .module && X.env.locals != X.env.globals)) = false := by rw [I.ok.kind]; rfl
  have hiσ : i < σ.length := by rw [I.len]; exact (List.getElem?_eq_some_iff.mp hi).1
  have cne := I.cne
  have tracked : ∀ {a : Addr} {h' : Heap}, (∃ o, s.heap.get? a = some o ∧ H a = none) → Heap.SameBut a s.heap h' → HOk X.prog X.w H h' := fun {a h'} ha hs b ob e => by
    obtain ⟨_, _, hfree⟩ := ha
    refine (I.hok b ob e).stay (fun c w' hc q => (hs.2 c ?_).trans q) (fun _ q => q) fun _ _ q => q
    rintro rfl
    rcases hc with rfl | hc
    · rw [hfree] at e; cases e
    · rw [hfree] at hc; cases hc
  rcases hx with hk | hk
  · refine wpAny_storeName_local hk hn (fun h' hn' hs => ?_) hcls
    obtain ⟨oL, _, _, hoL, _⟩ := id hn
    refine h _ ⟨I.ok, I.os, I.bare, ⟨fun b o e n hb hx => ?_, fun b o e n hb hx => ?_, I.base.free, fun b o e hx => ?_, I.base.tups, I.base.frzs, I.base.tbls⟩, ⟨_, hn', fun j y v' e1 e2 e3 => ?_⟩, fun y c e => ?_, I.free, I.freeC, fun p hp => ?_, tracked ⟨oL, hoL, I.free⟩ hs, by simpa using I.len⟩ ⟨_, hs, .inl rfl⟩
    · exact (hs.2 b (Nat.ne_of_lt (Nat.lt_of_lt_of_le (Heap.lt_size e) I.ok.above))).trans (I.base.keep b o e n hb hx)
    · obtain ⟨sl, e1⟩ := I.base.slot b o e n hb hx
      exact ⟨sl, (hs.2 b (Nat.ne_of_lt (Nat.lt_of_lt_of_le (Heap.lt_size e) I.ok.above))).trans e1⟩
    · obtain ⟨o', e1⟩ := I.base.there b o e hx
      exact ⟨o', (hs.2 b (Nat.ne_of_lt (Nat.lt_of_lt_of_le (Heap.lt_size e) I.ok.above))).trans e1⟩
    · by_cases hj : j = i
      · subst hj
        rw [hi] at e1; cases e1
        rw [List.getElem?_set_self hiσ] at e2
        cases e2
        exact ⟨u, r, .inl ⟨hk, by simp⟩⟩
      · rw [List.getElem?_set_ne (Ne.symm hj)] at e2
        obtain ⟨u', r', q⟩ := hl j y v' e1 e2 e3
        refine ⟨u', r', ?_⟩
        rcases q with ⟨k, e⟩ | ⟨k, c, e, z⟩
        · refine .inl ⟨k, ?_⟩
          have : y ≠ x := fun e => hj (nodup_ix hN e1 (e ▸ hi))
          simp [this, e]
        · exact .inr ⟨k, c, e, z.sameBut hs (cne y c e)⟩
    · obtain ⟨w', z⟩ := I.cell y c e
      exact ⟨w', z.sameBut hs (cne y c e)⟩
    · obtain ⟨e, n, ne, nf, d⟩ := I.pin p hp
      exact ⟨(hs.2 p.1 ne).trans e, n, ne, nf, d⟩
  · have hfn : X.fn x = true := by
      rcases hf with z | z
      · exact z
      · rw [z] at hk; cases hk
    obtain ⟨c, hc⟩ := I.ok.has x (.inl hk)
    obtain ⟨w', z⟩ := I.cell x c hc
    refine wpAny_storeName_cell I.ok.kind hk hc z (fun h' hc' hs => ?_)
    obtain ⟨oc, hoc, hocd⟩ := id z
    refine h { s with heap := h' } ⟨I.ok, I.os, I.bare, ⟨fun b o e n hb hx => ?_, fun b o e n hb hx => ?_, I.base.free, fun b o e hx => ?_, I.base.tups, I.base.frzs, I.base.tbls⟩, ⟨m, hn.sameBut hs (Ne.symm (cne x c hc)), fun j y v' e1 e2 e3 => ?_⟩, fun y c' e => ?_, I.free, I.freeC, fun p hp => ?_, tracked ⟨oc, hoc, I.freeC x c hc⟩ hs, by simpa using I.len⟩ ⟨c, hs, .inr hc⟩
    · exact (hs.2 b (Nat.ne_of_lt (Nat.lt_of_lt_of_le (Heap.lt_size e) (I.ok.cab x c hfn hc)))).trans (I.base.keep b o e n hb hx)
    · obtain ⟨sl, e1⟩ := I.base.slot b o e n hb hx
      exact ⟨sl, (hs.2 b (Nat.ne_of_lt (Nat.lt_of_lt_of_le (Heap.lt_size e) (I.ok.cab x c hfn hc)))).trans e1⟩
    · obtain ⟨o', e1⟩ := I.base.there b o e hx
      exact ⟨o', (hs.2 b (Nat.ne_of_lt (Nat.lt_of_lt_of_le (Heap.lt_size e) (I.ok.cab x c hfn hc)))).trans e1⟩
    · by_cases hj : j = i
      · subst hj
        rw [hi] at e1; cases e1
        rw [List.getElem?_set_self hiσ] at e2
        cases e2
        exact ⟨u, r, .inr ⟨.inl hk, c, hc, hc'⟩⟩
      · rw [List.getElem?_set_ne (Ne.symm hj)] at e2
        obtain ⟨u', r', q⟩ := hl j y v' e1 e2 e3
        refine ⟨u', r', ?_⟩
        rcases q with q | ⟨k, c', e, z'⟩
        · exact .inl q
        · refine .inr ⟨k, c', e, z'.sameBut hs ?_⟩
          rintro rfl
          exact hj (nodup_ix hN e1 (I.ok.inj _ _ _ e hc ▸ hi))
    · by_cases hcc : c' = c
      · subst hcc; exact ⟨_, hc'⟩
      · obtain ⟨w2, z2⟩ := I.cell y c' e
        exact ⟨w2, z2.sameBut hs hcc⟩
    · obtain ⟨e, n, ne, nf, d⟩ := I.pin p hp
      refine ⟨(hs.2 p.1 ?_).trans e, n, ne, nf, d⟩
      intro q
      rw [q, hoc] at e
      have q' : oc = p.2 := Option.some.inj e
      exact d w' (by rw [← q']; exact hocd)
theorem store_ok {M : Model} {A : Around} {E : Value → Shared → Prop} {i : Nat} {x : Str} {v : V} {u : Value} {Q : Unit → Shared → Prop} (I : Inv X pins σ H s) (hN : X.N.Nodup) (hi : X.N[i]? = some x) (hx : Loc X.env.scope x) (r : RelV v u)
    (h : ∀ s', Inv X pins (σ.set i (some v)) H s' → Q () s') (hf : X.fn x = true ∨ X.env.scope.names.lookup x = some .local := by first | exact .inl rfl | exact .inr rfl | assumption) : wpAny M A (storeName X.env x u) Q E s :=
  store_ok2 I hN hi hx r (fun s' I' _ => h s' I') hf
/-- behind a call or a block, the state as it is -/
theorem Inv.call' {s' : Shared} {ch : List Addr} (I : Inv X pins σ H s) (ho : s'.os = s.os) (u : Un (frs X.stack) ch H H' s.heap s'.heap) (hok : HOk X.prog X.w H' s'.heap) (hg : AllBare s'.gens)
    (hch : ∀ b ∈ ch, (b ∈ X.ex ∨ X.s_0.heap.objs.size ≤ b) ∧ b ≠ X.env.locals ∧ (∀ x c, X.env.cells.lookup x = some c → c ≠ b) ∧ ∀ p ∈ X.pn ++ pins, p.1 ≠ b) : Inv X pins σ H' s' := by
  obtain ⟨h', g', d', t', o'⟩ := s'
  have e : o' = s.os := ho
  subst e
  exact I.call (g' := g') (t' := t') (d' := d') u hok hg hch
end
/-- an exception: its class, its own dict's address (where it has one), the abstract heap behind it -/
abbrev XK := Value → Option Addr → Hp → Prop
abbrev St := List (Option V)
abbrev VK := V → Hp → Prop
/-- an expression's reading; a test's; an argument list's -/
abbrev TE := St → Hp → VK → Prop
abbrev TT := St → Hp → (Bool → Hp → Prop) → Prop
abbrev TA := St → Hp → (List V → Hp → Prop) → Prop
/-- what is wanted behind a statement -/
structure Ends where
  nx : St → Hp → Prop
  rt : VK
  bk : St → Hp → Prop := fun _ _ => False
  ct : St → Hp → Prop := fun _ _ => False
abbrev TS := Ends → St → Hp → Prop
def EP (X : Cx) (pins : List (Addr × Obj)) (σ : St) (Q : VK) (u : Value) (s' : Shared) : Prop := ∃ v H', Inv X pins σ H' s' ∧ RelV v u ∧ Q v H'
def TP (X : Cx) (pins : List (Addr × Obj)) (σ : St) (Q : Bool → Hp → Prop) (b : Bool) (s' : Shared) : Prop := ∃ H', Inv X pins σ H' s' ∧ Q b H'
def AP (X : Cx) (pins : List (Addr × Obj)) (σ : St) (Q : List V → Hp → Prop) (us : List Value) (s' : Shared) : Prop := ∃ vs H', Inv X pins σ H' s' ∧ Vals vs us ∧ Q vs H'
def SP (X : Cx) (pins : List (Addr × Obj)) (D : Ends) (f : Flow) (s' : Shared) : Prop :=
  match f with
  | .next => ∃ σ' H', Inv X pins σ' H' s' ∧ D.nx σ' H'
  | .brk => ∃ σ' H', Inv X pins σ' H' s' ∧ D.bk σ' H'
  | .cont => ∃ σ' H', Inv X pins σ' H' s' ∧ D.ct σ' H'
  | .ret u => ∃ v σ' H', Inv X pins σ' H' s' ∧ RelV v u ∧ D.rt v H'
def PE (X : Cx) (e : Expr) (t : TE) : Prop :=
  ∀ (pins : List (Addr × Obj)) (s : Shared) (σ : St) (H : Hp) (Q : VK), Inv X pins σ H s → t σ H Q → wpAny (model X.prog X.w) X.A (eval e X.env) (EP X pins σ Q) X.xe s
def PT (X : Cx) (e : Expr) (t : TT) : Prop :=
  ∀ (pins : List (Addr × Obj)) (s : Shared) (σ : St) (H : Hp) (Q : Bool → Hp → Prop), Inv X pins σ H s → t σ H Q → wpAny (model X.prog X.w) X.A (isTrue e X.env (eval e X.env)) (TP X pins σ Q) X.xe s
/-- a test whatever its 'whole' is (and, or) -/
def PW (X : Cx) (e : Expr) (t : TT) : Prop :=
  ∀ (whole : Sem Value) (pins : List (Addr × Obj)) (s : Shared) (σ : St) (H : Hp) (Q : Bool → Hp → Prop), Inv X pins σ H s → t σ H Q → wpAny (model X.prog X.w) X.A (isTrue e X.env whole) (TP X pins σ Q) X.xe s
theorem PW.pt {X : Cx} {e : Expr} {t : TT} (h : PW X e t) : PT X e t := h _
/-- an argument list (no star), from the left -/
def PA (X : Cx) (es : List Expr) (t : TA) : Prop :=
  ∀ (pos : Pos) (pins : List (Addr × Obj)) (s : Shared) (σ : St) (H : Hp) (Q : List V → Hp → Prop), Inv X pins σ H s → t σ H Q → wpAny (model X.prog X.w) X.A (spliced (backTo pos (starEach es X.env))) (AP X pins σ Q) X.xe s
def PS (X : Cx) (st : Stmt) (t : TS) : Prop :=
  ∀ (pins : List (Addr × Obj)) (s : Shared) (σ : St) (H : Hp) (D : Ends), Inv X pins σ H s → t D σ H → wpAny (model X.prog X.w) X.A (exec st X.env) (SP X pins D) X.xe s
def PSs (X : Cx) (st : List Stmt) (t : TS) : Prop :=
  ∀ (pins : List (Addr × Obj)) (s : Shared) (σ : St) (H : Hp) (D : Ends), Inv X pins σ H s → t D σ H → wpAny (model X.prog X.w) X.A (execs st X.env) (SP X pins D) X.xe s
/-- weaken the end -/
theorem thn {α : Type} {t : Sem α} {Q Q' : α → Shared → Prop} {M : Model} {A : Around} {E : Value → Shared → Prop} {s : Shared} (h : wpAny M A t Q E s) (hQ : ∀ a s, Q a s → Q' a s) : wpAny M A t Q' E s := wpAny_mono h hQ fun _ _ x => x
end L2
namespace L2
open PySem PySem.Spec PyProof.Rows
section
variable {X : Cx}
def tVar (i : Nat) : TE := fun σ H Q => ∃ v, σ[i]? = some (some v) ∧ Q v H
def tC (v : V) : TE := fun _ H Q => Q v H
theorem pe_var {i : Nat} {x : Str} {pos : Pos} (hN : X.N[i]? = some x) (hv : Vis X.env.scope x) (hd : (x == ("__debug__" : Str)) = false := by decide) (hcd : (x == ("__classdict__" : Str)) = false := by decide) : PE X (.Name x pos) (tVar i) := by
  intro pins s σ H Q I h
  obtain ⟨v, e, h⟩ := h
  obtain ⟨m, hn, hl⟩ := I.loc
  obtain ⟨u, r, l⟩ := hl i x v hN e hv
  have fin : EP X pins σ Q u s := ⟨v, H, I, r, h⟩
  rcases l with ⟨hk, hm⟩ | ⟨hk, c, hc, hcell⟩
  · exact wpAny_Name (wpAny_loadName_local I.ok.kind hk hn hm fin) hd
  · rcases hk with hk | hk
    · exact wpAny_Name (wpAny_loadName_cell I.ok.kind hk hc hcell fin) hd
    · exact wpAny_Name (wpAny_loadName_free I.ok.kind hk hc hcell fin hcd) hd
theorem pe_int {i j pos} : PE X (.Constant (.int i) j pos) (tC (.int i)) := fun _ _ _ H _ I h => wpAny_Constant_int ⟨.int i, H, I.tok _, ⟨_, rfl⟩, h⟩
theorem pe_bl {b j pos} : PE X (.Constant (.bool b) j pos) (tC (.bl b)) := fun _ _ _ H _ I h => Constant_bool ⟨.bl b, H, I, rfl, h⟩
theorem pe_non {j pos} : PE X (.Constant .none j pos) (tC .non) := fun _ _ _ H _ I h => Constant_none ⟨.non, H, I, rfl, h⟩
theorem pe_str {x j pos} : PE X (.Constant (.str x) j pos) (tC (.str x)) := fun _ _ _ H _ I h => Calls.Constant_str ⟨.str x, H, I.tok _, ⟨_, rfl⟩, h⟩
/-- a global name of the def -/
def Gl (X : Cx) (x : Str) : Prop := X.env.kindOf x = some .globalImplicit
theorem ld_glob {E : Value → Shared → Prop} {pins : List (Addr × Obj)} {s : Shared} {σ : St} {H : Hp} {x : Str} {u : Value} {pos : Pos} {Q : Value → Shared → Prop} (I : Inv X pins σ H s) (hg : Gl X x) (hm : X.mg x = some u) (h : Q u s)
    (hd : (x == ("__debug__" : Str)) = false := by decide) : wpAny (model X.prog X.w) X.A (eval (.Name x pos) X.env) Q E s :=
  Calls.Name_function_global I.ok.kind hg (Calls.loadGlobal_global (by rw [I.ok.glob]; exact I.mod.glob.keeps I.bk) hm h) hd
theorem ld_blt {E : Value → Shared → Prop} {pins : List (Addr × Obj)} {s : Shared} {σ : St} {H : Hp} {x : Str} {u : Value} {pos : Pos} {Q : Value → Shared → Prop} (I : Inv X pins σ H s) (hg : Gl X x) (hm : X.mg x = none) (hv : bootBuiltins x = some u) (h : Q u s)
    (hn : x ≠ "__name__" := by decide) (hd : (x == ("__debug__" : Str)) = false := by decide) : wpAny (model X.prog X.w) X.A (eval (.Name x pos) X.env) Q E s := by
  obtain ⟨mb, h1, h2⟩ := I.mod.blt
  exact Calls.Name_function_global I.ok.kind hg (Calls.loadGlobal_builtin (by rw [I.ok.glob]; exact I.mod.glob.keeps I.bk) hm (by rw [I.ok.blt]; exact h1.keeps I.bk) ((h2 x hn).trans hv) h) hd
theorem pe_bltn {x : Str} {v : V} {u : Value} {pos : Pos} (hg : Gl X x) (hm : X.mg x = none) (hv : bootBuiltins x = some u) (r : RelV v u) (hn : x ≠ "__name__" := by decide) (hd : (x == ("__debug__" : Str)) = false := by decide) : PE X (.Name x pos) (tC v) :=
  fun _ _ _ H _ I h => ld_blt I hg hm hv ⟨v, H, I, r, h⟩ hn hd
/-- two ints -/
def t2I (ta tb : TE) (k : Int → Int → Hp → Prop) : St → Hp → Prop := fun σ H => ta σ H fun x H1 => tb σ H1 fun y H2 => ∃ i j, x = .int i ∧ y = .int j ∧ k i j H2
def tAdd (ta tb : TE) : TE := fun σ H Q => t2I ta tb (fun i j H2 => Q (.int (i + j)) H2) σ H
def tSub (ta tb : TE) : TE := fun σ H Q => t2I ta tb (fun i j H2 => Q (.int (i - j)) H2) σ H
/-- the left factor below 2^64 -/
def tMul (ta tb : TE) : TE := fun σ H Q => t2I ta tb (fun i j H2 => (-(2 ^ 64) < i ∧ i < 2 ^ 64) ∧ Q (.int (i * j)) H2) σ H
variable {a b : Expr} {ta tb : TE} {pos : Pos}
def PC (X : Cx) (op : CmpOp) (a b : Expr) (t : TE) : Prop :=
  ∀ (pins : List (Addr × Obj)) (s : Shared) (σ : St) (H : Hp) (Q : VK), Inv X pins σ H s → t σ H Q →
    wpAny (model X.prog X.w) X.A (eval a X.env) (fun v s₁ => wpAny (model X.prog X.w) X.A (eval b X.env) (fun u s₂ => wpAny (model X.prog X.w) X.A (compareOp op v u) (EP X pins σ Q) X.xe s₂) X.xe s₁) X.xe s
def tCmp (p : Int → Int → Bool) (ta tb : TE) : TE := fun σ H Q => t2I ta tb (fun i j H2 => Q (.bl (p i j)) H2) σ H
abbrev tLt : TE → TE → TE := tCmp fun i j => decide (i < j)
abbrev tLe : TE → TE → TE := tCmp fun i j => decide (i ≤ j)
abbrev tGt : TE → TE → TE := tCmp fun i j => decide (j < i)
abbrev tGe : TE → TE → TE := tCmp fun i j => decide (j ≤ i)
abbrev tEqI : TE → TE → TE := tCmp fun i j => decide (i = j)
abbrev tNeI : TE → TE → TE := tCmp fun i j => !decide (i = j)
/-- is None -/
def tIsN (ta : TE) : TE := fun σ H Q => ta σ H fun x H1 => Q (.bl (decide (x = .non))) H1
def tNotN (ta : TE) : TE := fun σ H Q => ta σ H fun x H1 => Q (.bl (!decide (x = .non))) H1
/-- a comparison as a value, as a test -/
def tB (t : TE) : TT := fun σ H Q => t σ H fun x H1 => ∃ c, x = .bl c ∧ Q c H1
/-- an expression whose value is a bool, as a test -/
theorem pt_val {e : Expr} {t : TE} (h : PE X e t) (he : ∀ whole, isTrue e X.env whole = (do let v ← whole; standAt e.pos; holding [v] (truthy v)) := by intro _; rfl) : PT X e (tB t) := by
  intro pins s σ H Q I hw
  refine isTrue_plain (thn (h pins s σ H _ I hw) fun v s1 ⟨x, H1, I1, r1, q1⟩ => ?_) (he _)
  obtain ⟨d, rfl, q⟩ := q1
  cases r1
  exact wpAny_truthy_bool ⟨H1, I1, q⟩
variable {tA tB' : TT} {rest : List Expr}
def tAnd (t u : TT) : TT := fun σ H Q => t σ H fun c H1 => if c = true then u σ H1 Q else Q false H1
def tOr (t u : TT) : TT := fun σ H Q => t σ H fun c H1 => if c = true then Q true H1 else u σ H1 Q
def tNot (t : TT) : TT := fun σ H Q => t σ H fun c H1 => Q (!c) H1
theorem pw_and1 (ha : PT X a tA) : PW X (.BoolOp .And [a] pos) tA := by
  intro wh pins s σ H Q I h
  refine isTrue_and (thn (ha pins s σ H Q I h) fun c s1 e => ?_)
  cases c with
  | true => exact isTrue_and_nil e
  | false => exact e
theorem pw_or1 (ha : PT X a tA) : PW X (.BoolOp .Or [a] pos) tA := by
  intro wh pins s σ H Q I h
  refine isTrue_or (thn (ha pins s σ H Q I h) fun c s1 e => ?_)
  cases c with
  | false => exact isTrue_or_nil e
  | true => exact e
theorem pw_and (ha : PT X a tA) (hb : PW X (.BoolOp .And (b :: rest) pos) tB') : PW X (.BoolOp .And (a :: b :: rest) pos) (tAnd tA tB') := by
  intro wh pins s σ H Q I h
  refine isTrue_and (thn (ha pins s σ H _ I h) fun c s1 ⟨H1, I1, q1⟩ => ?_)
  cases c with
  | true => exact hb wh pins s1 σ H1 Q I1 q1
  | false => exact ⟨H1, I1, q1⟩
theorem pw_or (ha : PT X a tA) (hb : PW X (.BoolOp .Or (b :: rest) pos) tB') : PW X (.BoolOp .Or (a :: b :: rest) pos) (tOr tA tB') := by
  intro wh pins s σ H Q I h
  refine isTrue_or (thn (ha pins s σ H _ I h) fun c s1 ⟨H1, I1, q1⟩ => ?_)
  cases c with
  | true => exact ⟨H1, I1, q1⟩
  | false => exact hb wh pins s1 σ H1 Q I1 q1
theorem pt_not (ha : PT X a tA) : PT X (.UnaryOp .Not a pos) (tNot tA) := by
  intro pins s σ H Q I h
  exact isTrue_not (ha pins s σ H (fun c H1 => Q (!c) H1) I h)
/-- .. as values (bools) -/
def tAndV (ta tb : TE) : TE := fun σ H Q => ta σ H fun x H1 => ∃ c, x = .bl c ∧ if c = true then tb σ H1 Q else Q (.bl false) H1
def tOrV (ta tb : TE) : TE := fun σ H Q => ta σ H fun x H1 => ∃ c, x = .bl c ∧ if c = true then Q (.bl true) H1 else tb σ H1 Q
def tNotV (ta : TE) : TE := fun σ H Q => ta σ H fun x H1 => ∃ c, x = .bl c ∧ Q (.bl (!c)) H1
theorem pe_one {op} {t : TE} (h : PE X a t) : PE X (.BoolOp op [a] pos) t := fun pins s σ H Q I hw => BoolOp_one (h pins s σ H Q I hw)
theorem pe_and (ha : PE X a ta) (hb : PE X (.BoolOp .And (b :: rest) pos) tb) : PE X (.BoolOp .And (a :: b :: rest) pos) (tAndV ta tb) := by
  intro pins s σ H Q I h
  refine BoolOp_and (thn (ha pins s σ H _ I h) fun v s1 ⟨x, H1, I1, r1, q1⟩ => ?_)
  obtain ⟨c, rfl, q1⟩ := q1
  cases r1
  refine wpAny_truthy_bool ?_
  cases c with
  | true => exact hb pins s1 σ H1 Q I1 q1
  | false => exact ⟨.bl false, H1, I1, rfl, q1⟩
/-- a if t else b -/
def tIf (t : TT) (ta tb : TE) : TE := fun σ H Q => t σ H fun c H1 => if c = true then ta σ H1 Q else tb σ H1 Q
theorem pe_ifExp {c : Expr} (hc : PT X c tA) (ha : PE X a ta) (hb : PE X b tb) : PE X (.IfExp c a b pos) (tIf tA ta tb) := by
  intro pins s σ H Q I h
  refine wpAny_IfExp (thn (hc pins s σ H _ I h) fun d s1 ⟨H1, I1, q1⟩ => ?_)
  cases d with
  | true => exact ha pins s1 σ H1 Q I1 q1
  | false => exact hb pins s1 σ H1 Q I1 q1
end
end L2
namespace L2
open PySem PySem.Spec PyProof.Rows
def SqL (K : PySem.W.Frag) (H : Hp) (a : Addr) (xs : List V) : Prop :=
  Rd H a (.lst xs) ∨
    ∃ (o : Obj) (its : Array Value) (n : Nat), K.lookup a = some o ∧ o.cls = .type "list" ∧ o.dict = none ∧ o.data = .seq its n ∧ its.size ≤ sizeLine ∧ Vals xs its.toList
def SqT (K : PySem.W.Frag) (H : Hp) (a : Addr) (xs : List V) : Prop :=
  Rd H a (.tup xs) ∨
    ∃ (o : Obj) (its : Array Value) (n : Nat), K.lookup a = some o ∧ o.cls = .type "tuple" ∧ o.data = .seq its n ∧ its.size ≤ sizeLine ∧ Vals xs its.toList
def absV : Value → Option V
  | .none => some .non
  | .bool b => some (.bl b)
  | .int i _ => some (.int i)
  | .str x _ => some (.str x)
  | .bytes b _ => some (.byt b)
  | .float b _ => some (.flt b)
  | .ref a => some (.ref a)
  | .type n => some (.ty n)
  | _ => none
theorem RelV.abs {x : V} {u : Value} (r : RelV x u) : absV u = some x := by
  cases x with
  | non => cases r; rfl
  | bl _ => cases r; rfl
  | int _ => obtain ⟨t, rfl⟩ := r; rfl
  | str _ => obtain ⟨t, rfl⟩ := r; rfl
  | byt _ => obtain ⟨t, rfl⟩ := r; rfl
  | flt _ => obtain ⟨t, rfl⟩ := r; rfl
  | ref _ => cases r; rfl
  | ty _ => cases r; rfl
theorem RelV.inj {x y : V} {u : Value} (r : RelV x u) (q : RelV y u) : x = y := Option.some.inj (r.abs.symm.trans q.abs)
theorem Vals.inj : ∀ {xs ys : List V} {us : List Value}, Vals xs us → Vals ys us → xs = ys
  | _, _, _, .nil, .nil => rfl
  | _, _, _, .cons r t, .cons r' t' => by rw [r.inj r', Vals.inj t t']
section
variable {X : Cx} {pins : List (Addr × Obj)} {σ : St} {H : Hp} {s : Shared} {a : Addr} {xs ys : List V}
theorem SqL.of {K : PySem.W.Frag} (h : H a = some (.lst xs)) : SqL K H a xs := .inl (.inl h)
theorem SqT.of {K : PySem.W.Frag} (h : H a = some (.tup xs)) : SqT K H a xs := .inl (.inl h)
theorem Inv.list (I : Inv X pins σ H s) (h : SqL X.K H a xs) : ∃ its : List Value, Vals xs its ∧ PlainL s.heap a its.toArray ∧ xs.length ≤ sizeLine := by
  rcases h with h | ⟨o, its, n, hk, hc, hd, hs, hz, r⟩
  · obtain ⟨z, its, n, r, e⟩ := h.ok I.hok
    exact ⟨its, r, ⟨_, n, e, rfl, rfl, rfl⟩, z⟩
  · refine ⟨its.toList, r, ⟨o, n, I.kIn a o hk, hc, hd, by simpa using hs⟩, ?_⟩
    have e := r.length
    simp only [Array.length_toList] at e
    omega
theorem Inv.tuple (I : Inv X pins σ H s) (h : SqT X.K H a xs) : ∃ its : List Value, Vals xs its ∧ IsTup s.heap a its.toArray ∧ xs.length ≤ sizeLine := by
  rcases h with h | ⟨o, its, n, hk, hc, hs, hz, r⟩
  · obtain ⟨z, its, r, p⟩ := h.ok I.hok
    exact ⟨its, r, p, z⟩
  · refine ⟨its.toList, r, ⟨o, I.kIn a o hk, hc, n, by simpa using hs⟩, ?_⟩
    have e := r.length
    simp only [Array.length_toList] at e
    omega
theorem Inv.list_inj (I : Inv X pins σ H s) (h : SqL X.K H a xs) (h' : SqL X.K H a ys) : xs = ys := by
  obtain ⟨its, r, ⟨o, n, e, _, _, d⟩, _⟩ := I.list h
  obtain ⟨its', r', ⟨o', n', e', _, _, d'⟩, _⟩ := I.list h'
  rw [e] at e'; cases e'
  rw [d] at d'
  injection d' with d1 _
  have : its = its' := by simpa using congrArg Array.toList d1
  subst this
  exact r.inj r'
end
abbrev Cx.wish (X : Cx) (E : Value → Shared → Prop) : Cx := { X with xe := E }
/-- no exception leaves -/
abbrev Cx.nox (X : Cx) : Cx := X.wish fun _ _ => False
theorem Cx.Ok.wish {X : Cx} (ok : X.Ok) (E : Value → Shared → Prop) : (X.wish E).Ok :=
  ⟨ok.mod, ok.kind, ok.glob, ok.blt, ok.above, ok.inj, ok.has, ok.cab, ok.hd, ok.frames, ok.stk, ok.exf, ok.bs, ok.bsz, ok.noex, ok.exfs, ok.funs, ok.frf⟩
theorem Cx.Ok.unwish {X : Cx} {E : Value → Shared → Prop} (ok : (X.wish E).Ok) : X.Ok :=
  ⟨ok.mod, ok.kind, ok.glob, ok.blt, ok.above, ok.inj, ok.has, ok.cab, ok.hd, ok.frames, ok.stk, ok.exf, ok.bs, ok.bsz, ok.noex, ok.exfs, ok.funs, ok.frf⟩
section
variable {X : Cx} {pins : List (Addr × Obj)} {σ : St} {H : Hp} {s : Shared} {E : Value → Shared → Prop}
theorem Inv.wish (I : Inv X pins σ H s) (E : Value → Shared → Prop) : Inv (X.wish E) pins σ H s := ⟨I.ok.wish E, I.os, I.bare, I.base, I.loc, I.cell, I.free, I.freeC, I.pin, I.hok, I.len⟩
theorem Inv.unwish (I : Inv (X.wish E) pins σ H s) : Inv X pins σ H s := ⟨I.ok.unwish, I.os, I.bare, I.base, I.loc, I.cell, I.free, I.freeC, I.pin, I.hok, I.len⟩
theorem SP.unwish {D : Ends} {f : Flow} {s' : Shared} (h : SP (X.wish E) pins D f s') : SP X pins D f s' := by
  cases f with
  | next => obtain ⟨σ', H', I, q⟩ := h; exact ⟨σ', H', I.unwish, q⟩
  | brk => obtain ⟨σ', H', I, q⟩ := h; exact ⟨σ', H', I.unwish, q⟩
  | cont => obtain ⟨σ', H', I, q⟩ := h; exact ⟨σ', H', I.unwish, q⟩
  | ret u => obtain ⟨v, σ', H', I, r, q⟩ := h; exact ⟨v, σ', H', I.unwish, r, q⟩
theorem PE.nox {e : Expr} {t : TE} (h : PE X.nox e t) : PE X e t := fun pins s σ H Q I hw =>
  wpAny_mono (h pins s σ H Q (I.wish _) hw) (fun _ _ ⟨v, H', I', r, q⟩ => ⟨v, H', I'.unwish, r, q⟩) fun _ _ z => False.elim z
theorem PT.nox {e : Expr} {t : TT} (h : PT X.nox e t) : PT X e t := fun pins s σ H Q I hw =>
  wpAny_mono (h pins s σ H Q (I.wish _) hw) (fun _ _ ⟨H', I', q⟩ => ⟨H', I'.unwish, q⟩) fun _ _ z => False.elim z
theorem PSs.nox {st : List Stmt} {t : TS} (h : PSs X.nox st t) : PSs X st t := fun pins s σ H D I hw =>
  wpAny_mono (h pins s σ H D (I.wish _) hw) (fun _ _ q => q.unwish) fun _ _ z => False.elim z
end
section
variable {X : Cx} {st : Stmt} {rest : List Stmt} {t u : TS} {e : Expr} {te : TE} {pos : Pos}
def tNext : TS := fun D σ H => D.nx σ H
def tSeq (t u : TS) : TS := fun D σ H => t { D with nx := u D } σ H
theorem pss_nil : PSs X [] tNext := fun _ _ σ H _ I h => wpAny_execs_nil ⟨σ, H, I, h⟩
theorem pss_cons (h1 : PS X st t) (h2 : PSs X rest u) : PSs X (st :: rest) (tSeq t u) := by
  intro pins s σ H D I h
  refine wpAny_execs_cons (thn (h1 pins s σ H { D with nx := u D } I h) fun f s1 q => ?_)
  cases f with
  | next =>
    obtain ⟨σ', H', I', q⟩ := q
    exact h2 pins s1 σ' H' D I' q
  | ret v => exact q
  | brk => exact q
  | cont => exact q
theorem pss_one (h1 : PS X st t) : PSs X [st] t := by
  intro pins s σ H D I h
  refine wpAny_execs_cons (thn (h1 pins s σ H D I h) fun f s1 q => ?_)
  cases f with
  | next => exact wpAny_execs_nil q
  | ret v => exact q
  | brk => exact q
  | cont => exact q
def tBreak : TS := fun D σ H => D.bk σ H
def tCont : TS := fun D σ H => D.ct σ H
/-- in a def's body nothing is shown -/
theorem Inv.quiet {pins : List (Addr × Obj)} {σ : St} {H : Hp} {s : Shared} (I : Inv X pins σ H s) : interactive X.env = false := by simp [interactive, I.ok.kind]
/-- an expression whose value is dropped -/
def tDrop (te : TE) : TS := fun D σ H => te σ H fun _ H1 => D.nx σ H1
theorem ps_expr (he : PE X e te) (hs : swapsWith e none pos.line X.env = pure false := by rfl) : PS X (.Expr e pos) (tDrop te) := by
  intro pins s σ H D I h
  exact wpAny_Expr_any (thn (he pins s σ H _ I h) fun v s1 ⟨x, H1, I1, r1, q1⟩ => ⟨σ, H1, I1, q1⟩) I.quiet hs
def tRet (te : TE) : TS := fun D σ H => te σ H D.rt
theorem ps_ret (he : PE X e te) : PS X (.Return (some e) pos) (tRet te) := by
  intro pins s σ H D I h
  exact wpAny_Return_some (thn (he pins s σ H _ I h) fun v s1 ⟨x, H1, I1, r1, q1⟩ => ⟨x, σ, H1, I1, r1, q1⟩)
def tRetN : TS := fun D _ H => D.rt .non H
def tIfS (c : TT) (t u : TS) : TS := fun D σ H => c σ H fun b H1 => if b = true then t D σ H1 else u D σ H1
theorem ps_if {c : Expr} {a b : List Stmt} {tc : TT} (hc : PT X c tc) (ha : PSs X a t) (hb : PSs X b u) : PS X (.If c a b pos) (tIfS tc t u) := by
  intro pins s σ H D I h
  refine wpAny_If (thn (hc pins s σ H _ I h) fun d s1 ⟨H1, I1, q1⟩ => ?_)
  cases d with
  | true => exact ha pins s1 σ H1 D I1 q1
  | false => exact hb pins s1 σ H1 D I1 q1
/-- code that the proof never comes to -/
def tNever : TS := fun _ _ _ => False
end
abbrev TG := V → St → Hp → (St → Hp → Prop) → Prop
abbrev TGs := List V → St → Hp → (St → Hp → Prop) → Prop
def PG (X : Cx) (target : Expr) (t : TG) : Prop :=
  ∀ (pins : List (Addr × Obj)) (s : Shared) (σ : St) (H : Hp) (v : V) (u : Value) (Q : St → Hp → Prop), Inv X pins σ H s → RelV v u → t v σ H Q →
    wpAny (model X.prog X.w) X.A (assign target X.env u) (fun _ s' => ∃ σ' H', Inv X pins σ' H' s' ∧ Q σ' H') X.xe s
/-- several targets, one after another -/
def PGs (X : Cx) (ts : List Expr) (t : TGs) : Prop :=
  ∀ (pins : List (Addr × Obj)) (s : Shared) (σ : St) (H : Hp) (vs : List V) (us : List Value) (Q : St → Hp → Prop), Inv X pins σ H s → Vals vs us → t vs σ H Q →
    wpAny (model X.prog X.w) X.A (assignInOrder ((assignEach ts X.env).map (·.2)) us) (fun _ s' => ∃ σ' H', Inv X pins σ' H' s' ∧ Q σ' H') X.xe s
/-- o[i] = v, by values -/
abbrev TSet := V → V → V → Hp → (Hp → Prop) → Prop
def PSet (X : Cx) (t : TSet) : Prop :=
  ∀ (pins : List (Addr × Obj)) (s : Shared) (σ : St) (H : Hp) (o i v : V) (ov iv u : Value) (Q : Hp → Prop), Inv X pins σ H s → RelV o ov → RelV i iv → RelV v u → t o i v H Q →
    wpAny (model X.prog X.w) X.A (setItem ov iv u) (fun _ s' => ∃ H', Inv X pins σ H' s' ∧ Q H') X.xe s
/-- a op= b, by values -/
abbrev TIp := V → V → Hp → VK → Prop
def PIp (X : Cx) (op : Operator) (t : TIp) : Prop :=
  ∀ (pins : List (Addr × Obj)) (s : Shared) (σ : St) (H : Hp) (x y : V) (v u : Value) (Q : VK), Inv X pins σ H s → RelV x v → RelV y u → t x y H Q →
    wpAny (model X.prog X.w) X.A (inplaceOp op v u) (EP X pins σ Q) X.xe s
section
variable {X : Cx} {pos : Pos}
def gName (i : Nat) : TG := fun v σ H Q => Q (σ.set i (some v)) H
theorem pg_name {i : Nat} {x : Str} (hN : X.N.Nodup) (hi : X.N[i]? = some x) (hx : Loc X.env.scope x) (hf : X.fn x = true ∨ X.env.scope.names.lookup x = some .local := by first | exact .inl rfl | exact .inr rfl | assumption) : PG X (.Name x pos) (gName i) := by
  intro pins s σ H v u Q I r h
  exact wpAny_assign_Name (store_ok I hN hi hx r (fun s' I' => ⟨_, H, I', h⟩) hf)
def gNil : TGs := fun vs σ H Q => vs = [] ∧ Q σ H
def gCons (t : TG) (u : TGs) : TGs := fun vs σ H Q => ∃ v r, vs = v :: r ∧ t v σ H fun σ' H' => u r σ' H' Q
/-- (a, b, ..) = a tuple of that length -/
def gTup (K : PySem.W.Frag) (n : Nat) (t : TGs) : TG := fun v σ H Q => ∃ a xs, v = .ref a ∧ SqT K H a xs ∧ xs.length = n ∧ t xs σ H Q
/-- o[i] = .. -/
def gSub (to ti : TE) (t : TSet) : TG := fun v σ H Q => to σ H fun o H1 => ti σ H1 fun i H2 => t o i v H2 fun H3 => Q σ H3
theorem pg_sub {o i : Expr} {to ti : TE} {t : TSet} (ho : PE X o to) (hi : PE X i ti) (hs : PSet X t)
    (ha : ∀ v, assign (.Subscript o i pos) X.env v = (do
      let ov ← holding [v] (eval o X.env)
      let iv ← holding [v, ov] (eval i X.env)
      standAt pos
      holding [v, ov, iv] (setItem ov iv v)
      release [v, ov, iv] []) := by intro _; rfl) : PG X (.Subscript o i pos) (gSub to ti t) := by
  intro pins s σ H v u Q I r h
  rw [ha]
  refine wpAny_bind (wpAny_holding (thn (ho pins s σ H _ I h) fun ov s1 ⟨x, H1, I1, r1, q1⟩ => ?_))
  refine wpAny_bind (wpAny_holding (thn (hi pins s1 σ H1 _ I1 q1) fun iv s2 ⟨y, H2, I2, r2, q2⟩ => ?_))
  refine wpAny_bind (wpAny_standAt (wpAny_bind (wpAny_holding (thn (hs pins s2 σ H2 x y v ov iv u _ I2 r1 r2 r q2) fun _ s3 ⟨H3, I3, q3⟩ => ?_))))
  exact wpAny_release ⟨σ, H3, I3, q3⟩
/-- target = value -/
def tAsg (te : TE) (g : TG) : TS := fun D σ H => te σ H fun x H1 => g x σ H1 D.nx
theorem ps_asg {tg e : Expr} {te : TE} {g : TG} (he : PE X e te) (hg : PG X tg g) (hs : swapsWithSole [tg] e pos.line X.env = pure false := by rfl) (hw : swappedStores [tg] e X.env = pure none := by rfl)
    (h1 : (assignEach [tg] X.env).map (·.2) = [assign tg X.env] := by rfl) : PS X (.Assign [tg] e pos) (tAsg te g) := by
  intro pins s σ H D I h
  refine wpAny_Assign_stores (thn (he pins s σ H _ I h) fun v s1 ⟨x, H1, I1, r1, q1⟩ => ?_) hs hw
  rw [h1]
  exact thn (hg pins s1 σ H1 x v _ I1 r1 q1) fun _ s2 q => q
/-- name = value -/
theorem ps_set {i : Nat} {x : Str} {e : Expr} {te : TE} {pos' : Pos} (hN : X.N.Nodup) (hi : X.N[i]? = some x) (hx : Loc X.env.scope x) (he : PE X e te) (hs : swapsWith e (some (.Name x pos')) pos.line X.env = pure false := by rfl) (hf : X.fn x = true ∨ X.env.scope.names.lookup x = some .local := by first | exact .inl rfl | exact .inr rfl | assumption) :
    PS X (.Assign [.Name x pos'] e pos) (tAsg te (gName i)) := by
  intro pins s σ H D I h
  refine wpAny_Assign_Name (thn (he pins s σ H _ I h) fun v s1 ⟨y, H1, I1, r1, q1⟩ => ?_) hs
  exact store_ok I1 hN hi hx r1 (fun s2 I2 => ⟨_, H1, I2, q1⟩) hf
/-- a, b = x, y with plain local names: stored from the right; the pair itself is not tracked (the opening rows as in PyProof/Rows/TupAssign.lean:23) -/
def tPar (i j : Nat) (ta : TA) : TS := fun D σ H => ta σ H fun vs H1 => ∃ v w, vs = [v, w] ∧ D.nx ((σ.set i (some v)).set j (some w)) H1
/-- name op= e -/
def tAug (i : Nat) (te : TE) (ti : TIp) : TS := fun D σ H => ∃ x, σ[i]? = some (some x) ∧ te σ H fun y H1 => ti x y H1 fun z H2 => D.nx (σ.set i (some z)) H2
/-- o[i] op= e -/
def tAugS (to ti te : TE) (tget : V → V → Hp → VK → Prop) (tip : TIp) (tset : TSet) : TS := fun D σ H => to σ H fun o H1 => ti σ H1 fun i H2 => tget o i H2 fun x H3 => te σ H3 fun y H4 => tip x y H4 fun z H5 => tset o i z H5 fun H6 => D.nx σ H6
/-- o[i], by values -/
def PGet (X : Cx) (t : V → V → Hp → VK → Prop) : Prop :=
  ∀ (pins : List (Addr × Obj)) (s : Shared) (σ : St) (H : Hp) (o i : V) (ov iv : Value) (Q : VK), Inv X pins σ H s → RelV o ov → RelV i iv → t o i H Q →
    wpAny (model X.prog X.w) X.A (getItem ov iv) (EP X pins σ Q) X.xe s
/-- ints -/
def ipI (f : Int → Int → Int) : TIp := fun x y H Q => ∃ i j, x = .int i ∧ y = .int j ∧ Q (.int (f i j)) H
end
section
variable {X : Cx} {pos : Pos}
/-- the invariant W with its measure -/
def tWhile (c : TT) (tb : TS) : TS := fun D σ H => ∃ W : Nat → St → Hp → Prop, (∃ m, W m σ H) ∧ ∀ m σ H, W m σ H →
  c σ H fun b H1 => if b = true then ∃ N : St → Hp → Prop, (∀ σ' H', N σ' H' → ∃ m', m' < m ∧ W m' σ' H') ∧ tb { D with nx := N, ct := N, bk := D.nx } σ H1 else D.nx σ H1
end
/-- at turn i: it yields x (the heap may grow), or it stops -/
structure It where
  go : Nat → Hp → Prop
  yld : Nat → Hp → V → Hp → Prop
  stop : Nat → Hp → Prop
/-- the iterator's own objects may turn: they are not the frame's, not pinned, younger than the entry (or a comprehension's own) -/
def FpOk (X : Cx) (pins : List (Addr × Obj)) (H : Hp) (b : Addr) : Prop :=
  H b = none ∧ b ≠ X.env.locals ∧ b ∉ X.fs ∧ (b ∈ X.ex ∨ X.s_0.heap.objs.size ≤ b) ∧ (∀ x c, X.env.cells.lookup x = some c → c ≠ b) ∧ ∀ p ∈ X.pn ++ pins, p.1 ≠ b
theorem Inv.fpOk {X : Cx} {pins : List (Addr × Obj)} {σ : St} {H H' : Hp} {s : Shared} {b : Addr} (I : Inv X pins σ H s) (hb : s.heap.objs.size ≤ b) (hn : H' b = none) : FpOk X pins H' b := by
  refine ⟨hn, Nat.ne_of_gt (Nat.lt_of_lt_of_le I.lt hb), I.nofs hb, .inr (Nat.le_trans I.sz hb), fun x c e z => ?_, fun p hp z => ?_⟩
  · obtain ⟨v, q⟩ := I.cell x c e
    exact absurd (Nat.lt_of_lt_of_le q.lt (by rw [z]; exact hb)) (Nat.lt_irrefl _)
  · exact absurd (Nat.lt_of_lt_of_le (Heap.lt_size (I.pin p hp).1) (by rw [z]; exact hb)) (Nat.lt_irrefl _)
structure Turn (P : Program) (w : World) (K : PySem.W.Frag) (tg : Expr) (J : It) (fp : List Addr) (it : Addr) (tn : Nat → Heap → Prop) : Prop where
  mem : it ∈ fp
  obj : ∀ i h, tn i h → ∀ b ∈ fp, ∃ o, h.get? b = some o ∧ ∀ v, o.data ≠ .cell v
  keep : ∀ i h h', tn i h → (∀ b ∈ fp, ∀ o, h.get? b = some o → h'.get? b = some o) → tn i h'
  item : ∀ (X : Cx), X.prog = P → X.w = w → X.K = K → X.calm = true → ∀ (i : Nat) (pins : List (Addr × Obj)) (s : Shared) (σ : St) (H : Hp) (E : Value → Shared → Prop), Inv X pins σ H s → (∀ b ∈ fp, FpOk X pins H b) → tn i s.heap → J.go i H →
    wpAny (model P w) X.A (pyNext (.ref it)) (fun r s1 => ∃ u, r = some u ∧
      wpAny (model P w) X.A (letOwnedTupleGo tg (.ref it) u) (fun _ s2 => ∃ x H', Inv X pins σ H' s2 ∧ RelV x u ∧ J.yld i H x H' ∧ tn (i + 1) s2.heap ∧ ∀ b ∈ fp, H' b = none) E s1) E s
  done : ∀ (X : Cx), X.prog = P → X.w = w → X.K = K → X.calm = true → ∀ (i : Nat) (pins : List (Addr × Obj)) (s : Shared) (σ : St) (H : Hp) (E : Value → Shared → Prop), Inv X pins σ H s → (∀ b ∈ fp, FpOk X pins H b) → tn i s.heap → J.stop i H →
    wpAny (model P w) X.A (pyNext (.ref it)) (fun r s1 => r = none ∧ Inv X pins σ H s1) E s
  self : ∀ (A : Around) (i : Nat) (s : Shared) (Q : Value → Shared → Prop) (E : Value → Shared → Prop), tn i s.heap → Q (.ref it) s → wpAny (model P w) A (pyIter (.ref it)) Q E s
abbrev TI := St → Hp → (It → Hp → Prop) → Prop
/-- an iterator has come -/
def PIE (X : Cx) (pins : List (Addr × Obj)) (σ : St) (tg : Expr) (R : It → Hp → Prop) (itv : Value) (s2 : Shared) : Prop :=
  ∃ (it : Addr) (fp : List Addr) (tn : Nat → Heap → Prop) (J : It) (H' : Hp), itv = .ref it ∧ Inv X pins σ H' s2 ∧ Turn X.prog X.w X.K tg J fp it tn ∧ tn 0 s2.heap ∧ (∀ b ∈ fp, FpOk X pins H' b) ∧ R J H'
def PI (X : Cx) (tg iter : Expr) (wi : TI) : Prop :=
  ∀ (pins : List (Addr × Obj)) (s : Shared) (σ : St) (H : Hp) (R : It → Hp → Prop), Inv X pins σ H s → wi σ H R →
    wpAny (model X.prog X.w) X.A (eval iter X.env) (fun v s1 => wpAny (model X.prog X.w) X.A (pyIter v) (PIE X pins σ tg R) X.xe s1) X.xe s
/-- the step ahead of the store is nothing for an iterator that keeps no tuple -/
theorem go_of {M : Model} {A : Around} {E : Value → Shared → Prop} {s : Shared} {tg : Expr} {it : Addr} {u : Value} {o : Obj} {n : String} {vs : Array Value} {Q : Unit → Shared → Prop} (ho : s.heap.get? it = some o) (hc : o.cls = .type n) (hd : o.data = .fields vs)
    (hn : ["enumerate", "zip", "dict_itemiterator", "dict_reverseitemiterator", "odict_iterator", "itertools.zip_longest", "itertools.pairwise"].contains n = false) (hQ : Q () s) : wpAny M A (letOwnedTupleGo tg (.ref it) u) Q E s := by
  unfold letOwnedTupleGo
  cases tg <;> first
    | exact wpAny_pure hQ
    | (cases u <;> first
        | exact wpAny_pure hQ
        | (refine wpAny_bind (wpAny_load ho ?_)
           rw [hc, hd]
           show wpAny M A (if (["enumerate", "zip", "dict_itemiterator", "dict_reverseitemiterator", "odict_iterator", "itertools.zip_longest", "itertools.pairwise"].contains n && vs[0]? == some (rawInt _)) = true then _ else _) Q E s
           rw [if_neg (by intro h; rw [hn, Bool.false_and] at h; cases h)]
           exact wpAny_pure hQ))
/-- the list at a, as it stands at each turn (a loop may append to it) -/
def Itl (K : PySem.W.Frag) (a : Addr) : It :=
  ⟨fun i H => ∃ xs x, SqL K H a xs ∧ xs[i]? = some x, fun i H x H' => H' = H ∧ ∀ xs, SqL K H a xs → xs[i]? = some x, fun i H => ∃ xs, SqL K H a xs ∧ xs.length ≤ i⟩
def Itt (K : PySem.W.Frag) (a : Addr) : It :=
  ⟨fun i H => ∃ xs x, SqT K H a xs ∧ xs[i]? = some x, fun i H x H' => H' = H ∧ ∀ xs, SqT K H a xs → xs[i]? = some x, fun i H => ∃ xs, SqT K H a xs ∧ xs.length ≤ i⟩
/-- lo, lo + 1, .. (n of them) -/
def Itr (lo : Int) (n : Nat) : It := ⟨fun i _ => i < n, fun i H x H' => H' = H ∧ x = .int (lo + i), fun i _ => n ≤ i⟩
theorem turn_list {P : Program} {w : World} {K : PySem.W.Frag} {tg : Expr} (a it : Addr) : Turn P w K tg (Itl K a) [it] it (fun i h => h.IsListIter it a i) where
  mem := by simp
  obj := fun i h st b hb => by
    have e : b = it := by simpa using hb
    subst e
    obtain ⟨o, e, c, d⟩ := st
    exact ⟨o, e, fun v z => by rw [d] at z; cases z⟩
  keep := fun i h h' st k => st.at fun o e => k it (by simp) o e
  item := by
    intro X hP hw hK hc i pins s σ H E I hf st hg
    subst hP hw hK
    obtain ⟨xs, x, hq, hx⟩ := hg
    obtain ⟨its, rv, p, hz⟩ := I.list hq
    obtain ⟨u, hu, ru⟩ := rv.get hx
    obtain ⟨f0, f1, f2, f3, f4, f5⟩ := hf it (by simp)
    refine wpAny_pyNext_list_item st p.isList (x := u) (by simpa using hu) fun h' st' sb => ?_
    have I1 : Inv X pins σ H { s with heap := h' } := I.turned (t' := s.toks) (fun b o hb e => (sb.2 b hb).trans e) f0 f1 f3 f4 f5
    obtain ⟨o, e, c, d⟩ := id st'
    exact ⟨u, rfl, go_of (s := { s with heap := h' }) e c d (by decide) ⟨x, H, I1, ru, ⟨rfl, fun ys hy => by rw [I.list_inj hy hq]; exact hx⟩, st', fun b hb => (hf b hb).1⟩⟩
  done := by
    intro X hP hw hK hc i pins s σ H E I hf st hg
    subst hP hw hK
    obtain ⟨xs, hq, hx⟩ := hg
    obtain ⟨its, rv, p, hz⟩ := I.list hq
    obtain ⟨f0, f1, f2, f3, f4, f5⟩ := hf it (by simp)
    have hl := rv.length
    exact wpAny_pyNext_list_end (I.ok.hd hc) st p.isList (by simp; omega) fun h' eb => ⟨rfl, I.turned (t' := s.toks) (fun b o hb e => eb b o hb e) f0 f1 f3 f4 f5⟩
  self := fun _ _ _ _ _ st h => wpAny_pyIter_listiter st h
theorem turn_range {P : Program} {w : World} {K : PySem.W.Frag} {tg : Expr} (it : Addr) (lo : Int) (n : Nat) : Turn P w K tg (Itr lo n) [it] it (fun i h => IsRangeIter h it (lo + (i : Nat) * 1) ((n : Int) - (i : Nat)) 1) where
  mem := by simp
  obj := fun i h st b hb => by
    have e : b = it := by simpa using hb
    subst e
    exact ⟨_, st, fun v z => by
      have z' : Data.fields _ = Data.cell v := z
      cases z'⟩
  keep := fun i h h' st k => k it (by simp) _ st
  item := by
    intro X hP hw hK hc i pins s σ H E I hf st hg
    subst hP hw hK
    obtain ⟨f0, f1, f2, f3, f4, f5⟩ := hf it (by simp)
    have W := Walks.range (prog := X.prog) (w := X.w) (I.ok.hd hc) it lo 1 n
    refine W.item i s _ _ hg st fun v h' tk hv st' kk => ?_
    obtain ⟨t, rfl⟩ := hv
    have I1 : Inv X pins σ H { s with heap := h', toks := tk } := I.turned (fun b o hb e => kk b o (by simpa using hb) e) f0 f1 f3 f4 f5
    refine ⟨_, rfl, go_of (s := { s with heap := h', toks := tk }) (n := "range_iterator") st' rfl rfl (by decide) ⟨.int (lo + i), H, I1, ⟨t, ?_⟩, ⟨rfl, rfl⟩, st', fun b hb => (hf b hb).1⟩⟩
    rw [Int.mul_one]
  done := by
    intro X hP hw hK hc i pins s σ H E I hf st hg
    subst hP hw hK
    obtain ⟨f0, f1, f2, f3, f4, f5⟩ := hf it (by simp)
    exact wpAny_pyNext_range_end (I.ok.hd hc) st (by have : n ≤ i := hg; omega) fun h' eb => ⟨rfl, I.turned (t' := s.toks) (fun b o hb e => eb b o hb e) f0 f1 f3 f4 f5⟩
  self := fun _ _ _ _ _ st h => wpAny_pyIter_rangeiter st h
end L2
namespace L2
open PySem PySem.Spec PyProof.Rows
section
variable {X : Cx} {tg : Expr}
def iList (K : PySem.W.Frag) (tl : TE) : TI := fun σ H R => tl σ H fun x H1 => ∃ a, x = .ref a ∧ (∃ xs, SqL K H1 a xs) ∧ R (Itl K a) H1
def iTup (K : PySem.W.Frag) (tl : TE) : TI := fun σ H R => tl σ H fun x H1 => ∃ a, x = .ref a ∧ (∃ xs, SqT K H1 a xs) ∧ R (Itt K a) H1
theorem pi_list {l : Expr} {tl : TE} (hl : PE X l tl) : PI X tg l (iList X.K tl) := by
  intro pins s σ H R I h
  refine thn (hl pins s σ H _ I h) fun v s1 ⟨x, H1, I1, r1, q1⟩ => ?_
  obtain ⟨a, e, ⟨xs, hq⟩, q⟩ := q1
  subst e
  cases r1
  obtain ⟨its, rv, p, hz⟩ := I1.list hq
  refine wpAny_pyIter_list p.isList ?_
  refine ⟨s1.heap.objs.size, [s1.heap.objs.size], _, _, H1, rfl, I1.kept (t' := s1.toks) fun b o e => Heap.get?_push_of_some _ e, turn_list a _, ⟨_, Heap.get?_push_size _ rfl, rfl, rfl⟩, fun b hb => ?_, q⟩
  have e : b = s1.heap.objs.size := by simpa using hb
  subst e
  exact I1.fpOk (Nat.le_refl _) (I1.hok.fresh (Nat.le_refl _))
/-- a range object just made, walked -/
theorem range_it {pins : List (Addr × Obj)} {σ : St} {H : Hp} {s : Shared} {R : It → Hp → Prop} {E : Value → Shared → Prop} {lo hi : Int} {t u v : Tok} {tk : Nat} (I : Inv X pins σ H s) (h1 : -(2 ^ 62) ≤ lo) (h2 : lo < 2 ^ 62) (h3 : -(2 ^ 62) ≤ hi) (h4 : hi < 2 ^ 62)
    (q : R (Itr lo (hi - lo).toNat) H) : wpAny (model X.prog X.w) X.A (pyIter (.ref s.heap.objs.size)) (PIE X pins σ tg R) E { s with heap := s.heap.push { cls := .type "range", data := .fields #[.int lo t, .int hi u, .int 1 v] }, toks := tk } := by
  refine wpAny_pyIter_range (IsRange.new ..) (small_one h1 h2 h3 h4) ?_
  have I1 : Inv X pins σ H { s with heap := s.heap.push { cls := .type "range", data := .fields #[.int lo t, .int hi u, .int 1 v] }, toks := tk } := I.kept fun b o e => Heap.get?_push_of_some _ e
  refine ⟨(s.heap.push { cls := .type "range", data := .fields #[.int lo t, .int hi u, .int 1 v] }).objs.size, [(s.heap.push { cls := .type "range", data := .fields #[.int lo t, .int hi u, .int 1 v] }).objs.size], _, _, H, rfl,
    I1.kept (t' := tk) fun b o e => Heap.get?_push_of_some _ e, turn_range _ lo (hi - lo).toNat, ?_, fun b hb => ?_, q⟩
  · have e1 : lo + ((0 : Nat) : Int) * 1 = lo := by simp
    have e2 : (((hi - lo).toNat : Nat) : Int) - ((0 : Nat) : Int) = Builtin.Range.rangeSize lo hi 1 := by rw [rangeSize_one]; split <;> omega
    show IsRangeIter _ _ (lo + ((0 : Nat) : Int) * 1) ((((hi - lo).toNat : Nat) : Int) - ((0 : Nat) : Int)) 1
    rw [e1, e2]
    exact Heap.get?_push_size _ rfl
  · have e : b = (s.heap.push { cls := .type "range", data := .fields #[.int lo t, .int hi u, .int 1 v] }).objs.size := by simpa using hb
    subst e
    exact I1.fpOk (Nat.le_refl _) (I1.hok.fresh (Nat.le_refl _))
def iRng1 (ta : TA) : TI := fun σ H R => ta σ H fun vs H1 => ∃ j : Int, vs = [.int j] ∧ -(2 ^ 62) ≤ j ∧ j < 2 ^ 62 ∧ R (Itr 0 j.toNat) H1
def iRng2 (ta : TA) : TI := fun σ H R => ta σ H fun vs H1 => ∃ i j : Int, vs = [.int i, .int j] ∧ (-(2 ^ 62) ≤ i ∧ i < 2 ^ 62 ∧ -(2 ^ 62) ≤ j ∧ j < 2 ^ 62) ∧ R (Itr i (j - i).toNat) H1
theorem pi_range1 {a : Expr} {ta : TA} {p pos : Pos} (hg : Gl X "range") (hm : X.mg "range" = none) (ha : PA X [a] ta) (hs : starEach [a] X.env = [(false, eval a X.env)] := by rfl) : PI X tg (.Call (.Name "range" p) [a] [] pos) (iRng1 ta) := by
  intro pins s σ H R I h
  refine Call_ (ld_blt I hg hm boot_range (PyProof.Rows.callWith_type1 (thn (ha pos pins s σ H _ I h) fun us s1 ⟨vs, H1, I1, r1, q1⟩ => ?_) hs rfl))
  obtain ⟨j, e, q1, q2, q⟩ := q1
  subst e
  cases r1 with
  | cons r rr =>
    cases rr
    obtain ⟨t, rfl⟩ := r
    exact call_range_1 (range_it I1 (by omega) (by omega) q1 q2 (by simpa using q))
/-- W: the invariant by the turn and a measure; N: what the body is to reach -/
def tFor (wi : TI) (g : TG) (tb : TS) : TS := fun D σ H => wi σ H fun J H1 => ∃ W : Nat → Nat → St → Hp → Prop, (∃ m, W 0 m σ H1) ∧ ∀ i m σ H, W i m σ H →
  (J.stop i H ∧ D.nx σ H) ∨ (J.go i H ∧ ∃ N : St → Hp → Prop, (∀ σ' H', N σ' H' → ∃ m', m' < m ∧ W (i + 1) m' σ' H') ∧ ∀ x H', J.yld i H x H' → g x σ H' fun σ2 H2 => tb { D with nx := N, ct := N, bk := D.nx } σ2 H2)
/-- the records at fp as they stand -/
def pinsAt (fp : List Addr) (h : Heap) : List (Addr × Obj) := fp.filterMap fun b => (h.get? b).map fun o => (b, o)
theorem mem_pinsAt {fp : List Addr} {h : Heap} {b : Addr} {o : Obj} (hb : b ∈ fp) (e : h.get? b = some o) : (b, o) ∈ pinsAt fp h := List.mem_filterMap.mpr ⟨b, hb, by rw [e]; rfl⟩
theorem of_pinsAt {fp : List Addr} {h : Heap} {p : Addr × Obj} (hp : p ∈ pinsAt fp h) : p.1 ∈ fp ∧ h.get? p.1 = some p.2 := by
  obtain ⟨b, hb, e⟩ := List.mem_filterMap.mp hp
  cases q : h.get? b with
  | none => rw [q] at e; cases e
  | some o =>
    rw [q] at e
    have e' : (b, o) = p := Option.some.inj e
    subst e'
    exact ⟨hb, q⟩
theorem Inv.pinned {pins : List (Addr × Obj)} {σ : St} {H : Hp} {s : Shared} {fp : List Addr} (I : Inv X pins σ H s) (hf : ∀ b ∈ fp, FpOk X pins H b) (ho : ∀ b ∈ fp, ∃ o, s.heap.get? b = some o ∧ ∀ v, o.data ≠ .cell v) : Inv X (pins ++ pinsAt fp s.heap) σ H s :=
  I.pins_of fun p hp => (List.mem_append.mp hp).elim (fun z => I.pin p (List.mem_append_right _ z)) fun z => by
    obtain ⟨hb, e⟩ := of_pinsAt z
    obtain ⟨f0, f1, f2, _⟩ := hf p.1 hb
    obtain ⟨o, e', d⟩ := ho p.1 hb
    rw [e] at e'; cases e'
    exact ⟨e, f0, f1, f2, d⟩
theorem Inv.unpinned {pins pl : List (Addr × Obj)} {σ : St} {H : Hp} {s : Shared} (I : Inv X (pins ++ pl) σ H s) : Inv X pins σ H s := I.pins_of fun p hp => I.pin p (List.mem_append_right _ (List.mem_append_left _ hp))
theorem ps_for {iter : Expr} {body : List Stmt} {wi : TI} {g : TG} {tb : TS} {pos : Pos} (hp : PassesOwn (model X.prog X.w) X.A X.env X.xe) (hc : X.calm = true) (hi : PI X tg iter wi) (hg : PG X tg g) (hb : PSs X body tb)
    (hs : ∀ x, foldedSetIterable iter X.env x = pure x := by intro _; rfl) : PS X (.For tg iter body [] pos) (tFor wi g tb) := by
  intro pins s σ H D I h
  refine wpAny_For (thn (hi pins s σ H _ I h) fun v s1 h1 => thn h1 fun itv s2 h2 => ?_) hs
  obtain ⟨it, fp, tn, J, H2, e, I2, T, st2, f2, W, ⟨m0, w0⟩, turn⟩ := h2
  subst e
  -- what stays true of the iterator's objects through the loop
  have stat : ∀ {H' : Hp}, (∀ b ∈ fp, H' b = none) → ∀ b ∈ fp, FpOk X pins H' b := fun hn b hb => ⟨hn b hb, (f2 b hb).2⟩
  refine codeAny_forLoop_any (fun n s' => ∃ i σ' H', Inv X pins σ' H' s' ∧ tn i s'.heap ∧ (∀ b ∈ fp, H' b = none) ∧ W i n σ' H') ?_ m0 ⟨0, σ, H2, I2, st2, fun b hb => (f2 b hb).1, w0⟩
  rintro n s3 ⟨i, σ3, H3, I3, st3, fr3, w3⟩
  rcases turn i n σ3 H3 w3 with ⟨stop, qn⟩ | ⟨go, N, hN, step⟩
  · refine wpAny_passesOwn hp (thn (T.done X rfl rfl rfl hc i pins s3 σ3 H3 X.xe I3 (stat fr3) st3 stop) fun r s4 ⟨hr, I4⟩ => ?_)
    subst hr
    exact wpAny_execs_nil ⟨σ3, H3, I4, qn⟩
  · refine wpAny_passesOwn hp (thn (T.item X rfl rfl rfl hc i pins s3 σ3 H3 X.xe I3 (stat fr3) st3 go) fun r s4 ⟨u, hr, h4⟩ => ?_)
    subst hr
    refine wpAny_passesOwn hp (thn h4 fun _ s5 ⟨x, H5, I5, r5, y5, st5, fr5⟩ => ?_)
    have I5' := I5.pinned (stat fr5) (T.obj _ _ st5)
    refine wpAny_passesOwn hp (thn (hg _ s5 σ3 H5 x u _ I5' r5 (step x H5 y5)) fun _ s6 ⟨σ6, H6, I6, q6⟩ => ?_)
    refine wpAny_passesOwn hp (thn (hb _ s6 σ6 H6 _ I6 q6) fun f s7 q7 => ?_)
    have again : ∀ {σ7 : St} {H7 : Hp}, Inv X (pins ++ pinsAt fp s5.heap) σ7 H7 s7 → N σ7 H7 → ∃ m, m < n ∧ ∃ i σ' H', Inv X pins σ' H' s7 ∧ tn i s7.heap ∧ (∀ b ∈ fp, H' b = none) ∧ W i m σ' H' := fun {σ7 H7} I7 n7 => by
      obtain ⟨m', hm, w7⟩ := hN σ7 H7 n7
      refine ⟨m', hm, i + 1, σ7, H7, I7.unpinned, T.keep _ _ _ st5 fun b hb o e => (I7.pin (b, o) (List.mem_append_right _ (List.mem_append_right _ (mem_pinsAt hb e)))).1, fun b hb => ?_, w7⟩
      obtain ⟨o, e, d⟩ := T.obj _ _ st5 b hb
      exact (I7.pin (b, o) (List.mem_append_right _ (List.mem_append_right _ (mem_pinsAt hb e)))).2.1
    cases f with
    | next => obtain ⟨σ7, H7, I7, n7⟩ := q7; exact again I7 n7
    | cont => obtain ⟨σ7, H7, I7, n7⟩ := q7; exact again I7 n7
    | brk => obtain ⟨σ7, H7, I7, q7⟩ := q7; exact ⟨σ7, H7, I7.unpinned, q7⟩
    | ret v => obtain ⟨x7, σ7, H7, I7, r7, q7⟩ := q7; exact ⟨x7, σ7, H7, I7.unpinned, r7, q7⟩
end
/-- over a list that the body leaves as it is -/
theorem for_list {K : PySem.W.Frag} {a : Addr} {xs : List V} {g : TG} {tb : TS} {D : Ends} {σ : St} {H : Hp} (Pv : Nat → St → Hp → Prop) (h0 : Pv 0 σ H) (hl : ∀ i σ H, i ≤ xs.length → Pv i σ H → SqL K H a xs)
    (hs : ∀ i x σ H, xs[i]? = some x → Pv i σ H → g x σ H fun σ2 H2 => tb { D with nx := Pv (i + 1), ct := Pv (i + 1), bk := D.nx } σ2 H2) (hd : ∀ σ H, Pv xs.length σ H → D.nx σ H) :
    ∃ W : Nat → Nat → St → Hp → Prop, (∃ m, W 0 m σ H) ∧ ∀ i m σ H, W i m σ H →
      ((Itl K a).stop i H ∧ D.nx σ H) ∨ ((Itl K a).go i H ∧ ∃ N : St → Hp → Prop, (∀ σ' H', N σ' H' → ∃ m', m' < m ∧ W (i + 1) m' σ' H') ∧ ∀ x H', (Itl K a).yld i H x H' → g x σ H' fun σ2 H2 => tb { D with nx := N, ct := N, bk := D.nx } σ2 H2) := by
  refine ⟨fun i m σ H => m = xs.length - i ∧ i ≤ xs.length ∧ Pv i σ H, ⟨xs.length, by simp, Nat.zero_le _, h0⟩, ?_⟩
  rintro i m σ H ⟨rfl, hi, p⟩
  have q := hl i σ H hi p
  by_cases hlt : i < xs.length
  · refine .inr ⟨⟨xs, xs[i], q, by simp [hlt]⟩, Pv (i + 1), fun σ' H' p' => ⟨xs.length - (i + 1), by omega, rfl, hlt, p'⟩, fun x H' y => ?_⟩
    obtain ⟨e, y⟩ := y
    subst e
    exact hs i x σ _ (y xs q) p
  · have e : i = xs.length := by omega
    subst e
    exact .inl ⟨⟨xs, q, Nat.le_refl _⟩, hd σ H p⟩
theorem for_range {lo : Int} {n : Nat} {g : TG} {tb : TS} {D : Ends} {σ : St} {H : Hp} (Pv : Nat → St → Hp → Prop) (h0 : Pv 0 σ H)
    (hs : ∀ i σ H, i < n → Pv i σ H → g (.int (lo + i)) σ H fun σ2 H2 => tb { D with nx := Pv (i + 1), ct := Pv (i + 1), bk := D.nx } σ2 H2) (hd : ∀ σ H, Pv n σ H → D.nx σ H) :
    ∃ W : Nat → Nat → St → Hp → Prop, (∃ m, W 0 m σ H) ∧ ∀ i m σ H, W i m σ H →
      ((Itr lo n).stop i H ∧ D.nx σ H) ∨ ((Itr lo n).go i H ∧ ∃ N : St → Hp → Prop, (∀ σ' H', N σ' H' → ∃ m', m' < m ∧ W (i + 1) m' σ' H') ∧ ∀ x H', (Itr lo n).yld i H x H' → g x σ H' fun σ2 H2 => tb { D with nx := N, ct := N, bk := D.nx } σ2 H2) := by
  refine ⟨fun i m σ H => m = n - i ∧ i ≤ n ∧ Pv i σ H, ⟨n, by simp, Nat.zero_le _, h0⟩, ?_⟩
  rintro i m σ H ⟨rfl, hi, p⟩
  by_cases hlt : i < n
  · refine .inr ⟨hlt, Pv (i + 1), fun σ' H' p' => ⟨n - (i + 1), by omega, rfl, hlt, p'⟩, fun x H' y => ?_⟩
    obtain ⟨e, y⟩ := y
    subst e y
    exact hs i σ _ hlt p
  · have e : i = n := by omega
    subst e
    exact .inl ⟨Nat.le_refl _, hd σ H p⟩
end L2
namespace L2
open PySem PySem.Spec PyProof.Rows
abbrev R2 := V → V → Hp → VK → Prop
/-- a two-place operation on values: f is binaryOp op, inplaceOp op or compareOp op -/
def OpR (X : Cx) (f : Value → Value → Sem Value) (r : R2) : Prop :=
  ∀ (pins : List (Addr × Obj)) (s : Shared) (σ : St) (H : Hp) (x y : V) (v u : Value) (Q : VK), Inv X pins σ H s → RelV x v → RelV y u → r x y H Q →
    wpAny (model X.prog X.w) X.A (f v u) (EP X pins σ Q) X.xe s
/-- a one-place operation -/
def UnR (X : Cx) (f : Value → Sem Value) (r : V → Hp → VK → Prop) : Prop :=
  ∀ (pins : List (Addr × Obj)) (s : Shared) (σ : St) (H : Hp) (x : V) (v : Value) (Q : VK), Inv X pins σ H s → RelV x v → r x H Q →
    wpAny (model X.prog X.w) X.A (f v) (EP X pins σ Q) X.xe s
/-- a call of a value that is known (a builtin, a type) with values -/
def CallR (X : Cx) (f : Value) (r : List V → Hp → VK → Prop) : Prop :=
  ∀ (pins : List (Addr × Obj)) (s : Shared) (σ : St) (H : Hp) (xs : List V) (us : List Value) (Q : VK), Inv X pins σ H s → Vals xs us → r xs H Q →
    wpAny (model X.prog X.w) X.A (call f us) (EP X pins σ Q) X.xe s
/-- a value's truth -/
def TruR (X : Cx) (r : V → Hp → (Bool → Hp → Prop) → Prop) : Prop :=
  ∀ (pins : List (Addr × Obj)) (s : Shared) (σ : St) (H : Hp) (x : V) (v : Value) (Q : Bool → Hp → Prop), Inv X pins σ H s → RelV x v → r x H Q →
    wpAny (model X.prog X.w) X.A (truthy v) (TP X pins σ Q) X.xe s
def tOp (r : R2) (ta tb : TE) : TE := fun σ H Q => ta σ H fun x H1 => tb σ H1 fun y H2 => r x y H2 Q
def tUn (r : V → Hp → VK → Prop) (ta : TE) : TE := fun σ H Q => ta σ H fun x H1 => r x H1 Q
/-- ints in, under C, and a value out -/
def rI (C : Int → Int → Prop) (g : Int → Int → V) : R2 := fun x y H Q => ∃ i j, x = .int i ∧ y = .int j ∧ C i j ∧ Q (g i j) H
def rI0 (g : Int → Int → V) : R2 := fun x y H Q => ∃ i j, x = .int i ∧ y = .int j ∧ Q (g i j) H
def rU (g : Int → V) : V → Hp → VK → Prop := fun x H Q => ∃ i, x = .int i ∧ Q (g i) H
section
variable {X : Cx} {a b c : Expr} {ta tb tc : TE} {pos : Pos}
theorem binT (ha : PE X a ta) (hb : PE X b tb) {pins : List (Addr × Obj)} {s : Shared} {σ : St} {H : Hp} {R : V → V → Hp → Prop} (I : Inv X pins σ H s)
    (h : ta σ H fun x H1 => tb σ H1 fun y H2 => R x y H2) {Q : Value → Shared → Prop} {f : Value → Value → Sem Value}
    (hf : ∀ v u s2 x y H2, Inv X pins σ H2 s2 → RelV x v → RelV y u → R x y H2 → wpAny (model X.prog X.w) X.A (f v u) Q X.xe s2) :
    wpAny (model X.prog X.w) X.A (eval a X.env) (fun v s₁ => wpAny (model X.prog X.w) X.A (eval b X.env) (fun u s₂ => wpAny (model X.prog X.w) X.A (f v u) Q X.xe s₂) X.xe s₁) X.xe s := by
  refine thn (ha pins s σ H _ I h) fun v s1 ⟨x, H1, I1, r1, q1⟩ => ?_
  refine thn (hb pins s1 σ H1 _ I1 q1) fun u s2 ⟨y, H2, I2, r2, q2⟩ => ?_
  exact hf v u s2 x y H2 I2 r1 r2 q2
theorem pe_op {op : Operator} {r : R2} (ho : OpR X (binaryOp op) r) (ha : PE X a ta) (hb : PE X b tb) : PE X (.BinOp a op b pos) (tOp r ta tb) := by
  intro pins s σ H Q I h
  exact wpAny_BinOp (binT ha hb I h fun v u s2 x y H2 I2 rx ry q => ho pins s2 σ H2 x y v u Q I2 rx ry q)
theorem opI {f : Value → Value → Sem Value} {C : Int → Int → Prop} {g : Int → Int → Int}
    (rule : ∀ (i j : Int) (t u : Tok) (s : Shared) (Q : Value → Shared → Prop) (E : Value → Shared → Prop), C i j → Q (.int (g i j) s.toks) { s with toks := s.toks + 1 } → wpAny (model X.prog X.w) X.A (f (.int i t) (.int j u)) Q E s) :
    OpR X f (rI C fun i j => .int (g i j)) := by
  intro pins s σ H x y v u Q I rx ry h
  obtain ⟨i, j, rfl, rfl, hc, q⟩ := h
  obtain ⟨t, rfl⟩ := rx
  obtain ⟨t', rfl⟩ := ry
  exact rule i j t t' s _ _ hc ⟨.int (g i j), H, I.tok _, ⟨_, rfl⟩, q⟩
theorem opI0 {f : Value → Value → Sem Value} {g : Int → Int → Int}
    (rule : ∀ (i j : Int) (t u : Tok) (s : Shared) (Q : Value → Shared → Prop) (E : Value → Shared → Prop), Q (.int (g i j) s.toks) { s with toks := s.toks + 1 } → wpAny (model X.prog X.w) X.A (f (.int i t) (.int j u)) Q E s) :
    OpR X f (rI0 fun i j => .int (g i j)) := by
  intro pins s σ H x y v u Q I rx ry h
  obtain ⟨i, j, rfl, rfl, q⟩ := h
  obtain ⟨t, rfl⟩ := rx
  obtain ⟨t', rfl⟩ := ry
  exact rule i j t t' s _ _ ⟨.int (g i j), H, I.tok _, ⟨_, rfl⟩, q⟩
theorem opB0 {f : Value → Value → Sem Value} {g : Int → Int → Bool}
    (rule : ∀ (i j : Int) (t u : Tok) (s : Shared) (Q : Value → Shared → Prop) (E : Value → Shared → Prop), Q (.bool (g i j)) s → wpAny (model X.prog X.w) X.A (f (.int i t) (.int j u)) Q E s) :
    OpR X f (rI0 fun i j => .bl (g i j)) := by
  intro pins s σ H x y v u Q I rx ry h
  obtain ⟨i, j, rfl, rfl, q⟩ := h
  obtain ⟨t, rfl⟩ := rx
  obtain ⟨t', rfl⟩ := ry
  exact rule i j t t' s _ _ ⟨.bl (g i j), H, I, rfl, q⟩
def CDiv (i j : Int) : Prop := 0 < j ∧ j < 1073741824
def CDivN (i j : Int) : Prop := j ≠ 0 ∧ j.natAbs < 1073741824
def CPow (i j : Int) : Prop := 0 ≤ j ∧ j ≤ 1000000 ∧ i.natAbs < 2 ^ 64
def CMul (i j : Int) : Prop := (-(2 ^ 64) < i ∧ i < 2 ^ 64) ∨ (-(2 ^ 64) < j ∧ j < 2 ^ 64)
theorem CMul.ok {i j : Int} (h : CMul i j) : IntMulOk i j := by
  rcases h with ⟨h1, h2⟩ | ⟨h1, h2⟩
  · exact .of_left (intBits_le_64 h1 h2)
  · exact .of_right (intBits_le_64 h1 h2)
theorem op_add : OpR X (binaryOp .Add) (rI0 fun i j => .int (i + j)) := opI0 fun _ _ _ _ _ _ _ q => add_int q
theorem op_sub : OpR X (binaryOp .Sub) (rI0 fun i j => .int (i - j)) := opI0 fun _ _ _ _ _ _ _ q => sub_int q
theorem op_mul : OpR X (binaryOp .Mult) (rI CMul fun i j => .int (i * j)) := opI fun _ _ _ _ _ _ _ hc q => mul_int q hc.ok
/-- % by a positive divisor of any size -/
theorem op_mod : OpR X (binaryOp .Mod) (rI (fun _ j => 0 < j) fun i j => .int (i % j)) := opI fun i j _ _ _ _ _ hc q => by
  have h1 : (0 : Int) < j := hc
  exact mod_int' (by omega) (by rw [Int.fmod_eq_emod_of_nonneg i (by omega)]; exact q)
theorem op_pow : OpR X (binaryOp .Pow) (rI CPow fun i j => .int (i ^ j.toNat)) := opI fun _ _ _ _ _ _ _ hc q => pow_int_small hc.1 hc.2.1 hc.2.2 q
end
/-- the scalars that == tells apart as data does -/
def scal : V → V → Bool
  | .non, .non => true | .non, .int _ => true | .int _, .non => true | .non, .bl _ => true | .bl _, .non => true | .non, .str _ => true | .str _, .non => true
  | .int _, .int _ => true | .bl _, .bl _ => true | .str _, .str _ => true | .byt _, .byt _ => true
  | .int _, .str _ => true | .str _, .int _ => true | .bl _, .str _ => true | .str _, .bl _ => true
  | _, _ => false
def rEq : R2 := fun x y H Q => scal x y = true ∧ Q (.bl (decide (x = y))) H
def rNe : R2 := fun x y H Q => scal x y = true ∧ Q (.bl (!decide (x = y))) H
theorem dec_int {i j : Int} : decide (V.int i = V.int j) = (i == j) := by
  rw [Bool.eq_iff_iff]
  simp
theorem dec_bl {i j : Bool} : decide (V.bl i = V.bl j) = (i == j) := by
  rw [Bool.eq_iff_iff]
  simp
theorem dec_str {i j : Str} : decide (V.str i = V.str j) = (i == j) := by
  rw [Bool.eq_iff_iff]
  simp
theorem dec_byt {i j : Array UInt8} : decide (V.byt i = V.byt j) = (i.toList == j.toList) := by
  rw [Bool.eq_iff_iff]
  cases i
  cases j
  simp
section
variable {X : Cx} {a b c : Expr} {ta tb tc : TE} {pos : Pos}
theorem fin_bl {pins : List (Addr × Obj)} {σ : St} {H : Hp} {s : Shared} {Q : VK} {k k' : Bool} (I : Inv X pins σ H s) (q : Q (.bl k) H) (e : k = k') : EP X pins σ Q (.bool k') s := by
  subst e
  exact ⟨.bl k, H, I, rfl, q⟩
theorem op_eq : OpR X (compareOp .Eq) rEq := by
  intro pins s σ H x y v u Q I rx ry h
  obtain ⟨hs, q⟩ := h
  cases x with
  | non =>
    cases rx
    cases y with
    | non => cases ry; exact PySem.EqNone.eq_none_none (fin_bl I q (by simp))
    | bl j => cases ry; exact PySem.EqNone.eq_none_bool (fin_bl I q (by simp))
    | int j => obtain ⟨t', rfl⟩ := ry; exact PySem.EqNone.eq_none_int (fin_bl I q (by simp))
    | str j => obtain ⟨t', rfl⟩ := ry; exact PySem.EqNone.eq_none_str (fin_bl I q (by simp))
    | _ => exact absurd (show false = true from hs) Bool.false_ne_true
  | bl i =>
    cases rx
    cases y with
    | non => cases ry; exact PySem.EqNone.eq_bool_none (fin_bl I q (by simp))
    | bl j => cases ry; exact eq_bool (fin_bl I q dec_bl)
    | str j => obtain ⟨t', rfl⟩ := ry; exact PySem.EqMixed.eq_bool_str (fin_bl I q (by simp))
    | _ => exact absurd (show false = true from hs) Bool.false_ne_true
  | int i =>
    obtain ⟨t, rfl⟩ := rx
    cases y with
    | non => cases ry; exact PySem.EqNone.eq_int_none (fin_bl I q (by simp))
    | int j => obtain ⟨t', rfl⟩ := ry; exact eq_int (fin_bl I q dec_int)
    | str j => obtain ⟨t', rfl⟩ := ry; exact PySem.EqMixed.eq_int_str (fin_bl I q (by simp))
    | _ => exact absurd (show false = true from hs) Bool.false_ne_true
  | str i =>
    obtain ⟨t, rfl⟩ := rx
    cases y with
    | non => cases ry; exact PySem.EqNone.eq_str_none (fin_bl I q (by simp))
    | bl j => cases ry; exact PySem.EqMixed.eq_str_bool (fin_bl I q (by simp))
    | int j => obtain ⟨t', rfl⟩ := ry; exact PySem.EqMixed.eq_str_int (fin_bl I q (by simp))
    | str j => obtain ⟨t', rfl⟩ := ry; exact eq_str (fin_bl I q dec_str)
    | _ => exact absurd (show false = true from hs) Bool.false_ne_true
  | byt i =>
    obtain ⟨t, rfl⟩ := rx
    cases y with
    | byt j => obtain ⟨t', rfl⟩ := ry; exact PySem.W.eq_bytes (fin_bl I q dec_byt)
    | _ => exact absurd (show false = true from hs) Bool.false_ne_true
  | _ => cases y <;> exact absurd (show false = true from hs) Bool.false_ne_true
theorem op_ne : OpR X (compareOp .NotEq) rNe := by
  intro pins s σ H x y v u Q I rx ry h
  obtain ⟨hs, q⟩ := h
  cases x with
  | non =>
    cases rx
    cases y with
    | non => cases ry; exact PySem.EqNone.ne_none_none (fin_bl I q (by simp))
    | bl j => cases ry; exact PySem.EqNone.ne_none_bool (fin_bl I q (by simp))
    | int j => obtain ⟨t', rfl⟩ := ry; exact PySem.EqNone.ne_none_int (fin_bl I q (by simp))
    | str j => obtain ⟨t', rfl⟩ := ry; exact PySem.EqNone.ne_none_str (fin_bl I q (by simp))
    | _ => exact absurd (show false = true from hs) Bool.false_ne_true
  | bl i =>
    cases rx
    cases y with
    | non => cases ry; exact PySem.EqNone.ne_bool_none (fin_bl I q (by simp))
    | bl j => cases ry; exact ne_bool (fin_bl I q (congrArg not dec_bl))
    | str j => obtain ⟨t', rfl⟩ := ry; exact PySem.EqMixed.ne_bool_str (fin_bl I q (by simp))
    | _ => exact absurd (show false = true from hs) Bool.false_ne_true
  | int i =>
    obtain ⟨t, rfl⟩ := rx
    cases y with
    | non => cases ry; exact PySem.EqNone.ne_int_none (fin_bl I q (by simp))
    | int j => obtain ⟨t', rfl⟩ := ry; exact ne_int (fin_bl I q (congrArg not dec_int))
    | str j => obtain ⟨t', rfl⟩ := ry; exact PySem.EqMixed.ne_int_str (fin_bl I q (by simp))
    | _ => exact absurd (show false = true from hs) Bool.false_ne_true
  | str i =>
    obtain ⟨t, rfl⟩ := rx
    cases y with
    | non => cases ry; exact PySem.EqNone.ne_str_none (fin_bl I q (by simp))
    | bl j => cases ry; exact PySem.EqMixed.ne_str_bool (fin_bl I q (by simp))
    | int j => obtain ⟨t', rfl⟩ := ry; exact PySem.EqMixed.ne_str_int (fin_bl I q (by simp))
    | str j => obtain ⟨t', rfl⟩ := ry; exact ne_str (fin_bl I q (congrArg not dec_str))
    | _ => exact absurd (show false = true from hs) Bool.false_ne_true
  | byt i =>
    obtain ⟨t, rfl⟩ := rx
    cases y with
    | byt j => obtain ⟨t', rfl⟩ := ry; exact PySem.W.ne_bytes (fin_bl I q (congrArg not dec_byt))
    | _ => exact absurd (show false = true from hs) Bool.false_ne_true
  | _ => cases y <;> exact absurd (show false = true from hs) Bool.false_ne_true
theorem op_lt : OpR X (compareOp .Lt) (rI0 fun i j => .bl (decide (i < j))) := opB0 fun _ _ _ _ _ _ _ q => lt_int q
theorem op_le : OpR X (compareOp .LtE) (rI0 fun i j => .bl (decide (i ≤ j))) := opB0 fun _ _ _ _ _ _ _ q => le_int q
theorem op_ge : OpR X (compareOp .GtE) (rI0 fun i j => .bl (decide (j ≤ i))) := opB0 fun _ _ _ _ _ _ _ q => ge_int q
/-- is, is not of two objects that are tracked lists or instances -/
def isObj : HO → Bool
  | .lst _ => true
  | .ins _ _ _ => true
  | _ => false
theorem nomark (b : Expr) {op : CmpOp} (h : op ≠ .In := by decide) (h2 : op ≠ .NotIn := by decide) : behindInMarks op b = false := by
  have e1 : (op == CmpOp.In) = false := by cases op <;> first | rfl | exact absurd rfl h
  have e2 : (op == CmpOp.NotIn) = false := by cases op <;> first | rfl | exact absurd rfl h2
  cases b <;> simp [behindInMarks, e1, e2]
/-- a comparison as a value; hm: nomark b, or (for in, not in) by with_unfolding_all rfl -/
theorem pe_cmpR {op : CmpOp} {r : R2} (ho : OpR X (compareOp op) r) (ha : PE X a ta) (hb : PE X b tb) (hm : behindInMarks op b = false) : PE X (.Compare a [op] [b] pos) (tOp r ta tb) := by
  intro pins s σ H Q I h
  exact wpAny_Compare1 (binT ha hb I h fun v u s2 x y H2 I2 rx ry q => ho pins s2 σ H2 x y v u Q I2 rx ry q) hm
/-- a reading of a value as a test -/
def tTest (t : TE) : TT := fun σ H Q => t σ H fun x H' => ∃ k, x = .bl k ∧ Q k H'
theorem pt_cmpR {op : CmpOp} {r : R2} (ho : OpR X (compareOp op) r) (ha : PE X a ta) (hb : PE X b tb) (hm : behindInMarks op b = false) : PT X (.Compare a [op] [b] pos) (tTest (tOp r ta tb)) := by
  intro pins s σ H Q I h
  refine wpAny_isTrue_Compare1 (thn (ha pins s σ H _ I h) fun v s1 ⟨x, H1, I1, r1, q1⟩ => thn (hb pins s1 σ H1 _ I1 q1) fun u s2 ⟨y, H2, I2, r2, q2⟩ =>
    thn (ho pins s2 σ H2 x y v u _ I2 r1 r2 q2) fun c s3 ⟨z, H3, I3, r3, k, e, q3⟩ => ?_) hm
  subst e
  cases r3
  exact wpAny_truthy_bool ⟨H3, I3, q3⟩
/-- a op1 b op2 c -/
def tChain (r r' : R2) (ta tb tc : TE) : TE := fun σ H Q => ta σ H fun x H1 => tb σ H1 fun y H2 => r x y H2 fun z H3 => ∃ k, z = .bl k ∧
  (if k = true then tc σ H3 fun w' H4 => r' y w' H4 Q else Q (.bl false) H3)
theorem pt_chain {op op' : CmpOp} {r r' : R2} (ho : OpR X (compareOp op) r) (ho' : OpR X (compareOp op') r') (ha : PE X a ta) (hb : PE X b tb) (hc : PE X c tc)
    (hm : lastMarks [op, op'] [b, c] = false := by with_unfolding_all rfl) : PT X (.Compare a [op, op'] [b, c] pos) (tTest (tChain r r' ta tb tc)) := by
  intro pins s σ H Q I h
  refine isTrue_chain (thn (ha pins s σ H _ I h) fun v s1 ⟨x, H1, I1, r1, q1⟩ => test_link (thn (hb pins s1 σ H1 _ I1 q1) fun u s2 ⟨y, H2, I2, r2, q2⟩ =>
    thn (ho pins s2 σ H2 x y v u _ I2 r1 r2 q2) fun d s3 ⟨z, H3, I3, r3, k, e, q3⟩ => ?_)) hm
  subst e
  cases r3
  refine wpAny_truthy_bool ?_
  cases k with
  | false =>
    obtain ⟨k', e', q'⟩ := q3
    cases e'
    exact ite_ff ⟨H3, I3, q'⟩
  | true =>
    refine ite_tt (test_last (thn (hc pins s3 σ H3 _ I3 q3) fun w' s4 ⟨z', H4, I4, r4, q4⟩ => thn (ho' pins s4 σ H4 y z' u w' _ I4 r2 r4 q4) fun d' s5 ⟨z2, H5, I5, r5, k2, e2, q5⟩ => ?_))
    subst e2
    cases r5
    exact wpAny_truthy_bool ⟨H5, I5, q5⟩
/-- a value's truth by the abstract heap -/
def TruV (K : PySem.W.Frag) (x : V) (H : Hp) (k : Bool) : Prop :=
  match x with
  | .non => k = false
  | .bl b => k = b
  | .int i => k = (i != 0)
  | .str y => y.length ≤ sizeLine ∧ k = ((y.length : Int) != 0)
  | .byt y => y.size ≤ sizeLine ∧ k = ((y.size : Int) != 0)
  | .ref p => (∃ xs, SqL K H p xs ∧ k = !xs.isEmpty) ∨ (∃ xs, SqT K H p xs ∧ k = !xs.isEmpty) ∨ ∃ kvs, H p = some (.dK kvs) ∧ k = !kvs.isEmpty
  | _ => False
theorem line63 : (sizeLine : Nat) < 2 ^ 63 := by rw [sizeLine_eq]; decide
theorem op_add_str : OpR X (binaryOp .Add) (fun x y H Q => ∃ i j, x = .str i ∧ y = .str j ∧ i.length + j.length ≤ sizeLine ∧ Q (.str (i ++ j)) H) := by
  intro pins s σ H x y v u Q I rx ry h
  obtain ⟨i, j, rfl, rfl, hz, q⟩ := h
  obtain ⟨t, rfl⟩ := rx
  obtain ⟨t', rfl⟩ := ry
  exact add_str (fun t' tk => ⟨.str (i ++ j), H, I.tok _, ⟨_, rfl⟩, q⟩) hz
def PlainIxT (b : Expr) : Prop := ∀ o i, subscripted b false o i = operate [o, i] (getItem o i)
theorem vals1 {x : V} {us : List Value} (r : Vals [x] us) : ∃ u, us = [u] ∧ RelV x u := by
  cases r with
  | cons r1 r2 => cases r2; exact ⟨_, rfl, r1⟩
theorem vals2 {x y : V} {us : List Value} (r : Vals [x, y] us) : ∃ u w', us = [u, w'] ∧ RelV x u ∧ RelV y w' := by
  cases r with
  | cons r1 r2 =>
    cases r2 with
    | cons r3 r4 => cases r4; exact ⟨_, _, rfl, r1, r3⟩
theorem call_int1 : CallR X (.type "int") (fun xs H Q => (∃ i, xs = [.int i] ∧ Q (.int i) H) ∨ ∃ k, xs = [.bl k] ∧ Q (.int (if k then 1 else 0)) H) := by
  intro pins s σ H xs us Q I r h
  rcases h with ⟨i, rfl, q⟩ | ⟨k, rfl, q⟩
  · obtain ⟨u, rfl, t, rfl⟩ := vals1 r
    exact call_int_int ⟨.int i, H, I, ⟨_, rfl⟩, q⟩
  · obtain ⟨u, rfl, r1⟩ := vals1 r
    cases r1
    exact call_int_bool ⟨.int (if k then 1 else 0), H, I.tok _, ⟨_, rfl⟩, q⟩
theorem call_str_int : CallR X (.type "str") (fun xs H Q => ∃ i, xs = [.int i] ∧ i.natAbs.log2 < 1920 ∧ Q (.str (toString i)) H) := by
  intro pins s σ H xs us Q I r h
  obtain ⟨i, rfl, hz, q⟩ := h
  obtain ⟨u, rfl, t, rfl⟩ := vals1 r
  exact PySem.P.str_of_int hz ⟨.str _, H, I.tok _, ⟨_, rfl⟩, q⟩
/-- len of a str, a bytes, a list, a tuple -/
def LenV (K : PySem.W.Frag) (x : V) (H : Hp) (n : Nat) : Prop :=
  match x with
  | .str y => y.length ≤ sizeLine ∧ n = y.length
  | .byt y => y.size ≤ sizeLine ∧ n = y.size
  | .ref p => (∃ xs, SqL K H p xs ∧ n = xs.length) ∨ ∃ xs, SqT K H p xs ∧ n = xs.length
  | _ => False
end
end L2
namespace L2
open PySem PySem.Spec PyProof.Rows
structure ObjM (h : Heap) (x dx C : Addr) (mA : Str → Option Value) : Prop where
  obj : h.get? x = some (PySem.W.instObj C dx)
  ns : h.Ns1 dx mA
  ne : dx ≠ x
theorem lookIn_ns {h : Heap} {dx : Addr} {mA : Str → Option Value} (n : h.Ns1 dx mA) : ∃ od, h.get? dx = some od ∧ ∀ name, PySem.W.lookIn name od = some (mA name) := by
  obtain ⟨o, es, ep, ho, hd, hk, _, hm⟩ := n
  refine ⟨o, ho, fun name => ?_⟩
  have e := hm name
  unfold nsFind findBy at e
  rw [← Array.find?_toList] at e
  unfold PySem.W.lookIn
  rw [hd]
  dsimp only
  split
  · rename_i y q
    rw [q] at e
    exact congrArg some e
  · rename_i q
    rw [q] at e
    have a : es.toList.any (·.refKey) = false := by
      rw [List.any_eq_false]
      intro y hy
      obtain ⟨z, t, hkey⟩ := hk y (Array.mem_toList_iff.mp hy)
      simp [DictEntry.refKey, hkey]
    have a' : ¬ es.toList.any (·.refKey) = true := by rw [a]; exact Bool.false_ne_true
    rw [if_neg a']
    exact congrArg some e
theorem ObjM.look {h : Heap} {x dx C : Addr} {mA : Str → Option Value} (I : ObjM h x dx C mA) : ∃ od, PySem.W.InstAt h x (PySem.W.instObj C dx) C (some od) ∧ ∀ name, PySem.W.lookIn name od = some (mA name) :=
  let ⟨od, ho, hl⟩ := lookIn_ns I.ns
  ⟨od, ⟨I.obj, rfl, rfl, ho⟩, hl⟩
section
variable {prog : Program} {w : World} {A : Around} {E : Value → Shared → Prop} {s : Shared} {K : PySem.W.Frag} {x dx C f : Addr} {mA : Str → Option Value} {name : Str} {v : Value}
end
def putF (f : Str) (v : V) : List (Str × V) → List (Str × V)
  | [] => [(f, v)]
  | (g, x) :: r => if g = f then (g, v) :: r else (g, x) :: putF f v r
section
variable {P : Program} {w : World} {H H' : Hp} {h h' : Heap} {a C dx : Addr} {fs fs' : List (Str × V)}
end
structure Cls (K : PySem.W.Frag) (C : Addr) : Prop where
  pg : PySem.W.plainGet K C Str.empty = true
  hd : PySem.W.hasDictIn K C = true
  po : PySem.W.plainOver K C = true
  sa : PySem.W.findIn K (.ref C) "__setattr__" = some (some (.builtin "object.__setattr__"))
theorem Cls.get {K : PySem.W.Frag} {C : Addr} (c : Cls K C) (f : Str) : PySem.W.plainGet K C f = true := c.pg
/-- no class of it has the name -/
def NoAttr (K : PySem.W.Frag) (C : Addr) (f : Str) : Prop := PySem.W.findIn K (.ref C) f = some none
/-- a constant of the class -/
structure Con (K : PySem.W.Frag) (C : Addr) (f : Str) (v : V) (u : Value) : Prop where
  at_ : PySem.W.findIn K (.ref C) f = some (some u)
  rel : RelV v u
  get : PySem.W.specialIn K u "__get__" = some none
  cp : PySem.W.copiedNames.contains f = false
/-- a method: a plain def of the class or of one above it -/
structure Meth (K : PySem.W.Frag) (C : Addr) (m : Str) (f : Addr) : Prop where
  at_ : PySem.W.findIn K (.ref C) m = some (some (.ref f))
  fn : PySem.W.isFn K (.ref f) = true
  kp : PySem.W.keepIn K (.ref f) = true
section
variable {X : Cx} {pins : List (Addr × Obj)} {σ : St} {H : Hp} {s : Shared} {a C dx : Addr} {fs : List (Str × V)} {f : Str} {v : V} {A : Around} {E : Value → Shared → Prop}
end
/-- e.f, an attribute of the instance -/
def tFld (K : PySem.W.Frag) (ta : TE) (f : Str) : TE := fun σ H Q => ta σ H fun x H1 => ∃ a C dx fs v, x = .ref a ∧ H1 a = some (.ins C dx fs) ∧ Cls K C ∧ NoAttr K C f ∧ fs.lookup f = some v ∧ Q v H1
/-- e.f, a constant of the class -/
def tCon (K : PySem.W.Frag) (ta : TE) (f : Str) : TE := fun σ H Q => ta σ H fun x H1 => ∃ a C dx fs v u, x = .ref a ∧ H1 a = some (.ins C dx fs) ∧ Cls K C ∧ Con K C f v u ∧ fs.lookup f = none ∧ Q v H1
/-- e.f = value -/
def sFld (K : PySem.W.Frag) (ta tv : TE) (f : Str) : TS := fun D σ H => tv σ H fun y H1 => ta σ H1 fun x H2 => ∃ a C dx fs, x = .ref a ∧ H2 a = some (.ins C dx fs) ∧ Cls K C ∧ NoAttr K C f ∧ fs.length < 1000 ∧
  D.nx σ (upd H2 a (.ins C dx (putF f y fs)))
/-- an augmented operator on two values -/
def InOp (X : Cx) (op : Operator) (rd : V → V → Hp → VK → Prop) : Prop :=
  ∀ (pins : List (Addr × Obj)) (s : Shared) (σ : St) (H : Hp) (x y : V) (u v : Value) (Q : VK), Inv X pins σ H s → RelV x u → RelV y v → rd x y H Q → wpAny (model X.prog X.w) X.A (inplaceOp op u v) (EP X pins σ Q) X.xe s
/-- e.f op= value -/
def sFldAug (K : PySem.W.Frag) (ta tv : TE) (rd : V → V → Hp → VK → Prop) (f : Str) : TS := fun D σ H => ta σ H fun x H1 => ∃ a C dx fs v, x = .ref a ∧ H1 a = some (.ins C dx fs) ∧ Cls K C ∧ NoAttr K C f ∧ fs.lookup f = some v ∧
  tv σ H1 fun y H2 => rd v y H2 fun z H3 => ∃ dx' fs', H3 a = some (.ins C dx' fs') ∧ fs'.length < 1000 ∧ D.nx σ (upd H3 a (.ins C dx' (putF f z fs')))
section
variable {X : Cx} {o e value : Expr} {f : Str} {pos pos' tpos : Pos} {ta tv : TE}
def rAdd : V → V → Hp → VK → Prop := fun x y H Q => ∃ i j, x = .int i ∧ y = .int j ∧ Q (.int (i + j)) H
def rSub : V → V → Hp → VK → Prop := fun x y H Q => ∃ i j, x = .int i ∧ y = .int j ∧ Q (.int (i - j)) H
end
section
variable {X : Cx} {pins : List (Addr × Obj)} {σ : St} {H : Hp} {s : Shared} {A : Around} {E : Value → Shared → Prop} {Q : Value → Shared → Prop} {c : Value} {b : Bool}
/-- the type of a value, as the fragment's deciders take it; for an instance its class -/
inductive TyOf (K : PySem.W.Frag) (H : Hp) : V → Value → Prop where
  | non : TyOf K H .non (.type "NoneType")
  | bl (x : Bool) : TyOf K H (.bl x) (.type "bool")
  | int (i : Int) : TyOf K H (.int i) (.type "int")
  | str (x : Str) : TyOf K H (.str x) (.type "str")
  | flt (x : UInt64) : TyOf K H (.flt x) (.type "float")
  | lst {a : Addr} {xs : List V} (e : H a = some (.lst xs)) : TyOf K H (.ref a) (.type "list")
  | frz {a : Addr} {o : Obj} {xs : List V} (e : H a = some (.frz o (.lst xs))) : TyOf K H (.ref a) (.type "list")
  | tup {a : Addr} {xs : List V} (e : H a = some (.tup xs)) : TyOf K H (.ref a) (.type "tuple")
  | dK {a : Addr} {kvs : List (Key × V)} (e : H a = some (.dK kvs)) : TyOf K H (.ref a) (.type "dict")
  | dT {a : Addr} {kvs : List (List Key × V)} (e : H a = some (.dT kvs)) : TyOf K H (.ref a) (.type "dict")
  | ins {a C dx : Addr} {fs : List (Str × V)} (e : H a = some (.ins C dx fs)) (cl : Cls K C) (ha : PySem.W.findIn K (.ref C) "__class__" = some (some (.builtin "object.__class__")))
      (hn : PySem.W.specialIn K (.builtin "object.__class__") "__get__" = some (some (.builtin "getset_descriptor.__get__"))) (htk : PySem.W.takesIn K (.builtin "object.__class__") = some true)
      (hm : PySem.W.mroIn K C (.type "object") = some true) : TyOf K H (.ref a) (.ref C)
end
end L2
namespace L2
open PySem PySem.Spec PyProof.Rows
structure Room (k : Nat) (A : Around) : Prop where
  hd : A.handled = none
  dp : A.depth + 3 * k + 5 < recursionLimit
  un : A.units + 16 * k + 200 < cLine
  gd : A.guards = some []
theorem Room.mono {j k : Nat} {A : Around} (r : Room k A) (h : j ≤ k) : Room j A := ⟨r.hd, by have := r.dp; omega, by have := r.un; omega, r.gd⟩
theorem Room.deeper {k : Nat} {A : Around} (r : Room (k + 1) A) (env : Env) : Room k (A.deeper env) :=
  ⟨r.hd, by have := r.dp; show A.depth + 1 + 3 * k + 5 < _; omega, by have := r.un; show A.units + 3 + 16 * k + 200 < _; omega, r.gd⟩
theorem Room.in1 {k : Nat} {A : Around} (r : Room (k + 1) A) : Room k A.in1 :=
  ⟨r.hd, by have := r.dp; show A.depth + 3 * k + 5 < _; omega, by have := r.un; show A.units + 1 + 16 * k + 200 < _; omega, r.gd⟩
theorem Room.depth {k : Nat} {A : Around} (r : Room k A) : A.depth < recursionLimit := by have := r.dp; omega
theorem Room.units {k : Nat} {A : Around} (r : Room k A) : A.units + 64 < cLine := by have := r.un; omega
def tNil : TA := fun _ H Q => Q [] H
def tCons (ta : TE) (tr : TA) : TA := fun σ H Q => ta σ H fun x H1 => tr σ H1 fun xs H2 => Q (x :: xs) H2
section
variable {X : Cx} {e : Expr} {es : List Expr} {te : TE} {t : TA} {pos : Pos}
theorem pa_nil : PA X [] tNil := fun _ _ _ _ H Q I h => Calls.spliced_nil ⟨[], H, I, .nil, h⟩
theorem pa_cons (ha : PE X e te) (hr : PA X es t) (hs : starEach (e :: es) X.env = (false, eval e X.env) :: starEach es X.env := by rfl) : PA X (e :: es) (tCons te t) := by
  intro pos pins s σ H Q I h
  rw [hs]
  show wpAny _ _ (spliced ((false, eval e X.env) :: backTo pos (starEach es X.env))) _ _ s
  refine Calls.spliced_cons (thn (ha pins s σ H _ I h) fun u s1 ⟨x, H1, I1, r1, q1⟩ => ?_)
  exact thn (hr pos pins s1 σ H1 _ I1 q1) fun us s2 ⟨xs, H2, I2, r2, q2⟩ => ⟨x :: xs, H2, I2, .cons r1 r2, q2⟩
/-- a tuple, a list of written items -/
def tTup (t : TA) : TE := fun σ H Q => t σ H fun xs H1 => xs.length ≤ sizeLine ∧ ∀ p, H1 p = none → Q (.ref p) (upd H1 p (.tup xs))
def tLst (t : TA) : TE := fun σ H Q => t σ H fun xs H1 => xs.length ≤ sizeLine ∧ ∀ p, H1 p = none → Q (.ref p) (upd H1 p (.lst xs))
theorem pe_tup {x1} (h : PA X es t) : PE X (.Tuple es x1 pos) (tTup t) := by
  intro pins s σ H Q I hq
  refine wpAny_Tuple_spliced (thn (h pos pins s σ H _ I hq) fun us s1 ⟨xs, H1, I1, r, z, q⟩ => ⟨by rw [← r.length]; exact z, ?_⟩)
  have hf : H1 s1.heap.objs.size = none := I1.hok.fresh (Nat.le_refl _)
  refine ⟨.ref s1.heap.objs.size, upd H1 s1.heap.objs.size (.tup xs), I1.laid (t' := s1.toks) (fun b u e => Heap.get?_push_of_some _ e) (Nat.le_refl _) ?_, rfl, q _ hf⟩
  exact ⟨z, us, r, ⟨_, Heap.get?_push_size _ rfl, rfl, _, rfl⟩⟩
theorem pe_lst (h : PA X es t) : PE X (.List es pos) (tLst t) := by
  intro pins s σ H Q I hq
  refine wpAny_List_spliced (thn (h pos pins s σ H _ I hq) fun us s1 ⟨xs, H1, I1, r, z, q⟩ => ⟨by rw [← r.length]; exact z, ?_⟩)
  have hf : H1 s1.heap.objs.size = none := I1.hok.fresh (Nat.le_refl _)
  refine ⟨.ref s1.heap.objs.size, upd H1 s1.heap.objs.size (.lst xs), I1.laid (t' := s1.toks) (fun b u e => Heap.get?_push_of_some _ e) (Nat.le_refl _) ?_, rfl, q _ hf⟩
  exact ⟨z, us, 0, r, Heap.get?_push_size _ rfl⟩
end
/-- a def's promise: the bound arguments in the parameters' order, the heap, the wanted end, the wanted exception -/
abbrev Sp := List V → Hp → VK → XK → Prop
/-- how an exception lies behind a call (file 08 gives it): the callers' frames, abstract heap and state ahead of the call, the wish, the exception, the state -/
abbrev CXT := List Env → Hp → Shared → XK → Value → Shared → Prop
/-- the state at a call -/
structure Env0 (P : Program) (w : World) (K : PySem.W.Frag) (mg : Str → Option Value) (base : Heap) (A : Around) (outer : List Env) (s : Shared) (H : Hp) : Prop where
  frames : A.frames = some outer
  mod : Mod K mg base
  bs : ∀ b o, base.get? b = some o → s.heap.get? b = some o ∧ H b = none
  bsz : base.objs.size ≤ s.heap.objs.size
  funs : s.heap.FunFrames base outer
  frf : ∀ b ∈ frs outer, H b = none
  hok : HOk P w H s.heap
  bare : AllBare s.gens
/-- a call's end -/
def CE (outer : List Env) (P : Program) (w : World) (H : Hp) (s : Shared) (Q : VK) (u : Value) (s' : Shared) : Prop :=
  ∃ v H', s'.os = s.os ∧ AllBare s'.gens ∧ Un (frs outer) [] H H' s.heap s'.heap ∧ HOk P w H' s'.heap ∧ RelV v u ∧ Q v H'
def CR (CX : CXT) (outer : List Env) (P : Program) (w : World) (H : Hp) (s : Shared) (Q : VK) (E : XK) (r : Result) (s' : Shared) : Prop :=
  match r with
  | .ok (.ret u) => CE outer P w H s Q u s'
  | .ok _ => False
  | .error e => CX outer H s E e s'
structure FnOk (P : Program) (w : World) (K : PySem.W.Frag) (mg : Str → Option Value) (base : Heap) (CX : CXT) (k : Nat) (f : Addr) (fd : FuncData) (ps : List Str) (sp : Sp) : Prop where
  len : ∀ vs H Q E, sp vs H Q E → vs.length = ps.length
  run : ∀ (A : Around) (outer : List Env) (s : Shared) (H : Hp) (args : Args) (us : List Value) (vs : List V) (Q : VK) (E : XK), Room k A → Env0 P w K mg base A outer s H → BindsTo s fd args (ps.zip us) → Vals vs us → sp vs H Q E →
    codeAny (model P w) A (.call (.ref f) args) (CR CX outer P w H s Q E) s
theorem FnOk.mono {P : Program} {w : World} {K : PySem.W.Frag} {mg : Str → Option Value} {base : Heap} {CX : CXT} {j k : Nat} {f : Addr} {fd : FuncData} {ps : List Str} {sp : Sp} (F : FnOk P w K mg base CX j f fd ps sp) (h : j ≤ k) :
    FnOk P w K mg base CX k f fd ps sp := ⟨F.len, fun A outer s H args us vs Q E hr => F.run A outer s H args us vs Q E (hr.mono h)⟩
/-- a weaker promise -/
theorem FnOk.imp {P : Program} {w : World} {K : PySem.W.Frag} {mg : Str → Option Value} {base : Heap} {CX : CXT} {k : Nat} {f : Addr} {fd : FuncData} {ps : List Str} {sp sp' : Sp} (F : FnOk P w K mg base CX k f fd ps sp)
    (h : ∀ vs H Q E, sp' vs H Q E → sp vs H Q E) : FnOk P w K mg base CX k f fd ps sp' :=
  ⟨fun vs H Q E q => F.len vs H Q E (h _ _ _ _ q), fun A outer s H args us vs Q E hr he hb hv hs => F.run A outer s H args us vs Q E hr he hb hv (h _ _ _ _ hs)⟩
theorem Env0.in1 {P : Program} {w : World} {K : PySem.W.Frag} {mg : Str → Option Value} {base : Heap} {A : Around} {outer : List Env} {s : Shared} {H : Hp} (e : Env0 P w K mg base A outer s H) :
    Env0 P w K mg base A.in1 outer s H := ⟨e.frames, e.mod, e.bs, e.bsz, e.funs, e.frf, e.hok, e.bare⟩
section
variable {X : Cx} {pins : List (Addr × Obj)} {σ : St} {H : Hp} {s s' : Shared}
/-- from a body: what a callee wants -/
theorem Inv.env0 (I : Inv X pins σ H s) : Env0 X.prog X.w X.K X.mg X.base X.A X.stack s H :=
  ⟨I.ok.frames, I.ok.mod, I.bs, Nat.le_trans I.ok.bsz I.sz, I.stack, I.stkFree, I.hok, I.bare⟩
/-- behind a call -/
theorem Inv.after {Q : VK} {u : Value} (I : Inv X pins σ H s) (h : CE X.stack X.prog X.w H s Q u s') : EP X pins σ Q u s' := by
  obtain ⟨v, H', os, bare, un, hok, r, q⟩ := h
  obtain ⟨hh, g, d, t, os'⟩ := s'
  obtain rfl : os' = s.os := os
  exact ⟨v, H', I.call (h' := hh) (g' := g) (d' := d) (t' := t) (ch := []) un hok bare (fun b z => absurd z (by simp)), r, q⟩
end
/-- f(..): the written arguments, then the defaults dvs; E: what is wanted of an exception -/
def tCall (sp : Sp) (dvs : List V) (E : XK) (t : TA) : TE := fun σ H Q => t σ H fun vs H1 => sp (vs ++ dvs) H1 Q E
/-- o.m(..) of an instance of the class at C -/
def tMeth (C : Addr) (m : Str) (sp : Sp) (dvs : List V) (E : XK) (ta : TE) (t : TA) : TE := fun σ H Q => ta σ H fun x H1 => ∃ a dx fs, x = .ref a ∧ H1 a = some (.ins C dx fs) ∧ fs.lookup m = none ∧
  t σ H1 fun vs H2 => sp (x :: (vs ++ dvs)) H2 Q E
/-- C(..): a new instance and its dict, then __init__ -/
def tMake (C : Addr) (sp : Sp) (dvs : List V) (E : XK) (t : TA) : TE := fun σ H Q => t σ H fun vs H1 => ∀ x dx, H1 x = none → H1 dx = none → dx ≠ x →
  sp (.ref x :: (vs ++ dvs)) (upd (upd H1 dx (.own x)) x (.ins C dx [])) (fun v H2 => v = .non ∧ Q (.ref x) H2) E
/-- how the parameters are bound: us the positional arguments, kw the keywords' values by name, ds the defaults that fill up -/
def Binds (K : PySem.W.Frag) (fd : FuncData) (ps : List Str) (ds : List Value) : Prop :=
  ∀ (s : Shared) (us : List Value), K.In s.heap → (us ++ ds).length = ps.length → BindsTo s fd ⟨us, []⟩ (ps.zip (us ++ ds))
/-- every parameter is given -/
theorem Binds.all {K : PySem.W.Frag} {fd : FuncData} {ps : List Str} (h : ∀ us : List Value, us.length = ps.length → bindArgs fd ⟨us, []⟩ = pure (ps.zip us)) : Binds K fd ps [] := fun s us _ hl => by
  rw [List.append_nil] at hl ⊢
  exact .of_eq (h us hl)
/-- an exception of a callee reaches what this body wants of exceptions -/
def Passes (CX : CXT) (X : Cx) (E : XK) : Prop := ∀ (pins : List (Addr × Obj)) (σ : St) (H : Hp) (s : Shared) (e : Value) (s' : Shared), Inv X pins σ H s → CX X.stack H s E e s' → X.xe e s'
section
variable {X : Cx} {CX : CXT} {k : Nat} {f C : Addr} {fd : FuncData} {ps : List Str} {sp : Sp} {dvs : List V} {ds : List Value} {E : XK} {x m : Str} {p pos apos : Pos} {e o : Expr} {es : List Expr} {ta : TE} {t : TA}
/-- the callee runs -/
theorem run_fn {pins : List (Addr × Obj)} {σ : St} {H : Hp} {s : Shared} {Q : VK} {us : List Value} {vs : List V} (F : FnOk X.prog X.w X.K X.mg X.base CX k f fd ps sp) (hr : Room k X.A) (hb : Binds X.K fd ps ds) (hd : Vals dvs ds) (hx : Passes CX X E)
    (I : Inv X pins σ H s) (r : Vals vs us) (h : sp (vs ++ dvs) H Q E) : wpAny (model X.prog X.w) X.A (call (.ref f) us) (EP X pins σ Q) X.xe s := by
  have r2 : Vals (vs ++ dvs) (us ++ ds) := r.append hd
  have hl : (us ++ ds).length = ps.length := by rw [← r2.length]; exact F.len _ _ _ _ h
  refine wpAny_call (codeAny_mono (F.run X.A X.stack s H ⟨us, []⟩ (us ++ ds) (vs ++ dvs) Q E hr I.env0 (hb s us I.kIn hl) r2 h) fun r s' hq => ?_)
  cases r with
  | error e => exact hx pins σ H s e s' I hq
  | ok fl =>
    cases fl with
    | ret u => exact I.after hq
    | next => exact False.elim hq
    | brk => exact False.elim hq
    | cont => exact False.elim hq
theorem pe_call (F : FnOk X.prog X.w X.K X.mg X.base CX k f fd ps sp) (hr : Room k X.A) (hg : Gl X x) (hm : X.mg x = some (.ref f)) (hk : PySem.W.keepIn X.K (.ref f) = true) (hb : Binds X.K fd ps ds) (hd : Vals dvs ds) (hx : Passes CX X E)
    (ha : PA X (e :: es) t) (hdb : (x == ("__debug__" : Str)) = false := by decide) (he : starEach (e :: es) X.env = (false, eval e X.env) :: starEach es X.env := by rfl) (hpl : (backTo pos (starEach es X.env)).any (·.1) = false := by rfl) :
    PE X (.Call (.Name x p) (e :: es) [] pos) (tCall sp dvs E t) := by
  intro pins s σ H Q I h
  refine wpAny_Call_Name_kw (ld_glob I hg hm ?_ hdb)
  refine PySem.W.callWith_K (h₀ := X.base) I.ok.mod.kin hk (thn (ha pos pins s σ H _ I h) fun us s1 ⟨vs, H1, I1, r, q⟩ => ⟨I1.kIn, ?_⟩) he hpl
  exact run_fn F hr hb hd hx I1 r q
/-- what a class must have to be made -/
structure Mk (K : PySem.W.Frag) (C f : Addr) : Prop where
  makes : PySem.W.makesIn K C = true
  init : PySem.W.findIn K (.ref C) "__init__" = some (some (.ref f))
  fn : PySem.W.isFn K (.ref f) = true
  kp : PySem.W.keepIn K (.ref C) = true
end
/-- the values of the keywords, from the left -/
def PK (X : Cx) (kws : List Keyword) (t : TA) : Prop :=
  ∀ (pos : Pos) (pins : List (Addr × Obj)) (s : Shared) (σ : St) (H : Hp) (Q : List V → Hp → Prop), Inv X pins σ H s → t σ H Q → wpAny (model X.prog X.w) X.A (evalAll ((backToKw pos (keywordEach kws X.env)).map (·.2))) (AP X pins σ Q) X.xe s
section
variable {X : Cx} {CX : CXT} {k : Nat} {f C : Addr} {fd : FuncData} {ps ks : List Str} {sp : Sp} {E : XK} {x m : Str} {p pos apos kpos : Pos} {e o : Expr} {es : List Expr} {kws : List Keyword} {te ta : TE} {t tk : TA} {nm : Option Str}
/-- how a call with keywords binds: g puts the positional values us and the keywords' values ws (names ks) in the parameters' order, defaults among them -/
structure KBinds (K : PySem.W.Frag) (fd : FuncData) (ps ks : List Str) (g : List Value → List Value → List Value) (gV : List V → List V → List V) : Prop where
  to : ∀ (s : Shared) (us ws : List Value), K.In s.heap → (g us ws).length = ps.length → BindsTo s fd ⟨us, ks.zip ws⟩ (ps.zip (g us ws))
  rel : ∀ {vs : List V} {us : List Value} {zs : List V} {ws : List Value}, Vals vs us → Vals zs ws → Vals (gV vs zs) (g us ws)
def tCallK (sp : Sp) (gV : List V → List V → List V) (E : XK) (t tk : TA) : TE := fun σ H Q => t σ H fun vs H1 => tk σ H1 fun zs H2 => sp (gV vs zs) H2 Q E
variable {g : List Value → List Value → List Value} {gV : List V → List V → List V}
end
/-- names: the parameters first -/
structure FnScope (N P : List Str) (sc : Scope) : Prop where
  kind : sc.kind = .function
  co : sc.isCoroutine = false
  gen : sc.isGenerator = false
  nd : N.Nodup
  pre : N.take P.length = P
  par : ∀ x ∈ P, sc.names.lookup x = some .local ∨ sc.names.lookup x = some .cell
  nofree : ∀ y ∈ sc.names, y.2 ≠ .free
theorem bindL_out {kindOf : Str → Option NameKind} {x : Str} : ∀ {binds : List (Str × Value)} {m : Str → Option Value}, (∀ v, (x, v) ∉ binds) → bindL kindOf binds m x = m x
  | [], _, _ => rfl
  | (n, v) :: r, m, h => by
    unfold bindL
    rw [bindL_out fun w hw => h w (List.mem_cons_of_mem _ hw)]
    split
    · have : x ≠ n := by rintro rfl; exact h v List.mem_cons_self
      simp [this]
    · rfl
theorem bindC_out {kindOf : Str → Option NameKind} {x : Str} : ∀ {binds : List (Str × Value)} {m : Str → Option Value}, (∀ v, (x, v) ∉ binds) → bindC kindOf binds m x = m x
  | [], _, _ => rfl
  | (n, v) :: r, m, h => by
    unfold bindC
    rw [bindC_out fun w hw => h w (List.mem_cons_of_mem _ hw)]
    split
    · rfl
    · have : x ≠ n := by rintro rfl; exact h v List.mem_cons_self
      simp [this]
theorem bindL_get {kindOf : Str → Option NameKind} {x : Str} {v : Value} : ∀ {P : List Str} {vs : List Value} {i : Nat} {m : Str → Option Value}, P.Nodup → P[i]? = some x → vs[i]? = some v → kindOf x = some .local →
    bindL kindOf (P.zip vs) m x = some v
  | [], _, _, _, _, h, _, _ => by simp at h
  | _ :: _, [], _, _, _, _, h, _ => by simp at h
  | p :: P, w :: vs, 0, m, nd, h1, h2, hk => by
    simp at h1 h2; subst h1; subst h2
    show bindL kindOf ((p, w) :: P.zip vs) m p = _
    unfold bindL
    rw [bindL_out fun v hv => (List.nodup_cons.mp nd).1 (List.of_mem_zip hv).1, if_pos hk]
    simp
  | p :: P, w :: vs, i + 1, m, nd, h1, h2, hk => by
    show bindL kindOf ((p, w) :: P.zip vs) m x = _
    unfold bindL
    exact bindL_get (i := i) (List.nodup_cons.mp nd).2 (by simpa using h1) (by simpa using h2) hk
theorem bindC_get {kindOf : Str → Option NameKind} {x : Str} {v : Value} : ∀ {P : List Str} {vs : List Value} {i : Nat} {m : Str → Option Value}, P.Nodup → P[i]? = some x → vs[i]? = some v → kindOf x ≠ some .local →
    bindC kindOf (P.zip vs) m x = some v
  | [], _, _, _, _, h, _, _ => by simp at h
  | _ :: _, [], _, _, _, _, h, _ => by simp at h
  | p :: P, w :: vs, 0, m, nd, h1, h2, hk => by
    simp at h1 h2; subst h1; subst h2
    show bindC kindOf ((p, w) :: P.zip vs) m p = _
    unfold bindC
    rw [bindC_out fun v hv => (List.nodup_cons.mp nd).1 (List.of_mem_zip hv).1, if_neg hk]
    simp
  | p :: P, w :: vs, i + 1, m, nd, h1, h2, hk => by
    show bindC kindOf ((p, w) :: P.zip vs) m x = _
    unfold bindC
    exact bindC_get (i := i) (List.nodup_cons.mp nd).2 (by simpa using h1) (by simpa using h2) hk
/-- the names' values at the entry -/
def start (N : List Str) (vs : List V) : St := vs.map some ++ List.replicate (N.length - vs.length) none
/-- the context of a def's body, at its entry; an exception leaves the frame, then lies as CX says -/
def cxOf (CX : CXT) (P : Program) (w : World) (K : PySem.W.Frag) (mg : Str → Option Value) (base : Heap) (N : List Str) (qual : Str) (scope : Scope) (f : Addr) (cd : Value) (A : Around) (outer : List Env) (s : Shared) (H : Hp) (E : XK) : Cx where
  prog := P
  w := w
  K := K
  mg := mg
  base := base
  A := A.deeper (envOfC qual scope s.heap.objs.size f cd)
  N := N
  s_0 := s
  H_0 := H
  env := envOfC qual scope s.heap.objs.size f cd
  outer := outer
  stack := envOfC qual scope s.heap.objs.size f cd :: outer
  ex := []
  calm := true
  fn := fun _ => true
  pn := []
  xe := fun e s' => wpAny (model P w) (A.deeper (envOfC qual scope s.heap.objs.size f cd)) (leaving (envOfC qual scope s.heap.objs.size f cd) e) (fun _ s'' => CX outer H s E e s'') (fun e' s'' => CX outer H s E e' s'') s'
theorem cell_has {sc : Scope} {n : Nat} {x : Str} (h : sc.names.lookup x = some .cell) : ∃ c, (cellsFrom n sc.names []).lookup x = some c := by
  have q := PySem.W.cellsFrom_some sc.names n [] (.inl h)
  exact Option.isSome_iff_exists.mp q
theorem inv_start {CX : CXT} {P : Program} {w : World} {K : PySem.W.Frag} {mg : Str → Option Value} {base : Heap} {N ps : List Str} {qual : Str} {scope : Scope} {f : Addr} {cd : Value} {A : Around} {outer : List Env} {s s1 : Shared} {H : Hp} {E : XK} {us : List Value} {vs : List V}
    (S : FnScope N ps scope) (hd : A.handled = none) (e0 : Env0 P w K mg base A outer s H) (hl : vs.length = ps.length) (r : Vals vs us)
    (x : InCallC s s.heap.objs.size (bindL (envOfC qual scope s.heap.objs.size f cd).kindOf (ps.zip us) fun _ => none) (cellsFrom (s.heap.objs.size + 1) scope.names []) (bindC (envOfC qual scope s.heap.objs.size f cd).kindOf (ps.zip us) fun _ => none) s1) :
    Inv (cxOf CX P w K mg base N qual scope f cd A outer s H E) [] (start N vs) H s1 := by
  have hpl : ps.length ≤ N.length := by have := congrArg List.length S.pre; rw [List.length_take] at this; omega
  obtain ⟨h1, tk, rfl, hk⟩ := x.done
  have noA : ∀ b : Addr, b ∉ (cxOf CX P w K mg base N qual scope f cd A outer s H E).ex := fun b z => absurd (show b ∈ ([] : List Addr) from z) (by simp)
  refine ⟨⟨e0.mod, S.kind, rfl, rfl, Nat.le_refl _, fun y z c h1 h2 => ?_, fun y hy => ?_, fun y c _ h => ?_, fun _ => hd, Around.frames_deeper e0.frames, .inr ⟨rfl, rfl⟩, fun b z => absurd z (noA b), e0.bs, e0.bsz, fun b _ _ => noA b, fun b z => absurd z (noA b), e0.funs, e0.frf⟩,
    rfl, e0.bare, Un.kept hk, ⟨_, x.toInCall.ns, fun i y v h1 h2 h3 => ?_⟩, fun y c h => ⟨_, x.cell y c h⟩, e0.hok.fresh (Nat.le_refl _), fun y c h => ?_, fun p hp => absurd (show p ∈ ([] : List (Addr × Obj)) from hp) (by simp), e0.hok.kept hk, ?_⟩
  · exact name_of_addr x.apart (PySem.mem_of_lookup h1) (PySem.mem_of_lookup h2)
  · have hy : scope.names.lookup y = some .cell ∨ scope.names.lookup y = some .free := hy
    rcases hy with hy | hy
    · exact cell_has hy
    · exact absurd rfl (S.nofree _ (PySem.mem_of_lookup hy))
  · exact Nat.le_of_lt (x.above y c (PySem.mem_of_lookup h))
  · have hi : i < vs.length := by
      unfold start at h2
      by_cases hi : i < vs.length
      · exact hi
      · rw [List.getElem?_append_right (by simpa using hi)] at h2
        rw [List.getElem?_replicate] at h2
        split at h2 <;> cases h2
    have ha : vs[i]? = some v := by
      unfold start at h2
      rw [List.getElem?_append_left (by simpa using hi), List.getElem?_map] at h2
      cases e : vs[i]? with
      | none => rw [e] at h2; cases h2
      | some a => rw [e] at h2; cases h2; rfl
    obtain ⟨u, hu, rv⟩ := r.get ha
    have hp : ps[i]? = some y := by
      rw [← S.pre, List.getElem?_take_of_lt (by omega)]; exact h1
    have ndP : ps.Nodup := by rw [← S.pre]; exact S.nd.sublist (List.take_sublist _ _)
    refine ⟨u, rv, ?_⟩
    rcases S.par y (List.mem_of_getElem? hp) with k | k
    · exact .inl ⟨k, bindL_get ndP hp hu k⟩
    · obtain ⟨c, e⟩ := cell_has (n := s.heap.objs.size + 1) k
      refine .inr ⟨.inl k, c, e, ?_⟩
      have q := x.cell y c e
      rw [bindC_get ndP hp hu (by show scope.names.lookup y ≠ _; rw [k]; decide)] at q
      exact q
  · exact e0.hok.fresh (Nat.le_of_lt (x.above y c (PySem.mem_of_lookup h)))
  · unfold start
    show _ = N.length
    rw [List.length_append, List.length_map, List.length_replicate]
    omega
/-- THE RULE: a def (or a method) of the text, by its body. The body's reading t is chosen for each entry; it is run at the parameters' values -/
theorem fn_of {CX : CXT} {P : Program} {w : World} {K : PySem.W.Frag} {mg : Str → Option Value} {base : Heap} {k : Nat} {f : Addr} {name qual : Str} {params : Arguments} {body : List Stmt} {scope : Scope} {dV kV doc pm cdv ct oc : Value} {an od : Option Addr}
    {osl : Array (Option Value)} {N ps : List Str} {sp : Sp} (lk : K.lookup f = some ⟨oc, od, .func (PySem.W.fnOf name qual params body scope dV kV doc pm an cdv ct), osl⟩) (hcd : PySem.W.codeIn K cdv qual = true) (S : FnScope N ps scope)
    (len : ∀ vs H Q E, sp vs H Q E → vs.length = ps.length)
    (hbody : ∀ (A : Around) (outer : List Env) (s : Shared) (H : Hp) (vs : List V) (Q : VK) (E : XK), Room k (A.deeper (envOfC qual scope s.heap.objs.size f cdv)) → sp vs H Q E →
      ∃ t, PSs (cxOf CX P w K mg base N qual scope f cdv A outer s H E) body t ∧ t { nx := fun _ H' => Q .non H', rt := Q } (start N vs) H) :
    FnOk P w K mg base CX (k + 1) f (PySem.W.fnOf name qual params body scope dV kV doc pm an cdv ct) ps sp := by
  refine ⟨len, fun A outer s H args us vs Q E hr e0 hb r hsp => ?_⟩
  have hl := len _ _ _ _ hsp
  have KX : K.In s.heap := e0.mod.kin.keeps fun b o e => (e0.bs b o e).1
  have lim : s.heap.NoLimit := e0.mod.nolimit.keeps fun b o e => (e0.bs b o e).1
  have hkind : ∀ y ∈ ps.zip us, scope.names.lookup y.1 = some .local ∨ (scope.names.lookup y.1 = some .cell ∧ ((cellsFrom (s.heap.objs.size + 1) scope.names []).lookup y.1).isSome = true) := fun ⟨n, v⟩ hy => by
    rcases S.par n (List.of_mem_zip hy).1 with q | q
    · exact .inl q
    · exact .inr ⟨q, PySem.W.cellsFrom_some _ _ _ (.inl q)⟩
  refine codeAny_call_function hr.depth (KX _ _ lk) rfl S.co S.gen rfl (PySem.W.codeRec_of KX hcd) (hb _ _ _ _ ?_)
  refine wpAny_newFunctionEnv_cells S.kind hkind fun env he s1 x => ?_
  subst he
  refine ⟨lim.keeps x.toInCall.keep, codeAny_func ?_⟩
  obtain ⟨t, ht, hq⟩ := hbody A outer s H vs Q E (hr.deeper _) hsp
  have I : Inv (cxOf CX P w K mg base N qual scope f cdv A outer s H E) [] (start N vs) H s1 := inv_start S hr.hd e0 hl r x
  refine wpAny_mono (ht [] s1 (start N vs) H _ I hq) (fun fl s' hs => ?_) fun e s' hs => hs
  have fin : ∀ {σ' : St} {H' : Hp} {v : V} {u : Value}, Inv (cxOf CX P w K mg base N qual scope f cdv A outer s H E) [] σ' H' s' → RelV v u → Q v H' → CE outer P w H s Q u s' :=
    fun {σ' H' v u} J rv q => ⟨v, H', J.os, J.bare, J.base, J.hok, rv, q⟩
  cases fl with
  | ret u =>
    obtain ⟨v, σ', H', J, rv, q⟩ := hs
    exact fin J rv q
  | next =>
    obtain ⟨σ', H', J, q⟩ := hs
    exact fin (v := V.non) (u := Value.none) J rfl q
  | brk =>
    obtain ⟨_, _, _, q⟩ := hs
    exact False.elim q
  | cont =>
    obtain ⟨_, _, _, q⟩ := hs
    exact False.elim q
end L2
namespace L2
open PySem PySem.Spec PyProof.Rows
section
variable {X : Cx} {x : Str} {p pos : Pos} {e : Expr} {es : List Expr} {t : TA} {id T : String} {r : List V → Hp → VK → Prop}
def tCB (r : List V → Hp → VK → Prop) (t : TA) : TE := fun σ H Q => t σ H fun vs H1 => r vs H1 Q
/-- f(e, ..), f a built-in function -/
theorem pe_callB (hc : CallR X (.builtin id) r) (hg : Gl X x) (hm : X.mg x = none) (hv : bootBuiltins x = some (.builtin id)) (ha : PA X (e :: es) t) (hn : x ≠ "__name__" := by decide) (hdb : (x == ("__debug__" : Str)) = false := by decide)
    (he : starEach (e :: es) X.env = (false, eval e X.env) :: starEach es X.env := by rfl) (hpl : (backTo pos (starEach es X.env)).any (·.1) = false := by rfl) : PE X (.Call (.Name x p) (e :: es) [] pos) (tCB r t) := by
  intro pins s σ H Q I h
  refine wpAny_Call_Name_kw (ld_blt I hg hm hv ?_ hn hdb)
  exact PyProof.Rows.callWith_builtin1 (thn (ha pos pins s σ H _ I h) fun us s1 ⟨vs, H1, I1, r1, q1⟩ => hc pins s1 σ H1 vs us Q I1 r1 q1) he hpl
/-- T(e, ..), T a built-in type -/
theorem pe_callTy (hc : CallR X (.type T) r) (hg : Gl X x) (hm : X.mg x = none) (hv : bootBuiltins x = some (.type T)) (ha : PA X (e :: es) t) (hn : x ≠ "__name__" := by decide) (hdb : (x == ("__debug__" : Str)) = false := by decide)
    (he : starEach (e :: es) X.env = (false, eval e X.env) :: starEach es X.env := by rfl) (hpl : (backTo pos (starEach es X.env)).any (·.1) = false := by rfl) : PE X (.Call (.Name x p) (e :: es) [] pos) (tCB r t) := by
  intro pins s σ H Q I h
  refine wpAny_Call_Name_kw (ld_blt I hg hm hv ?_ hn hdb)
  exact PyProof.Rows.callWith_type1 (thn (ha pos pins s σ H _ I h) fun us s1 ⟨vs, H1, I1, r1, q1⟩ => hc pins s1 σ H1 vs us Q I1 r1 q1) he hpl
end
end L2
namespace HT
open PySem PyProof.Rows
/-- t < u of tuples of ints -/
def lexLt : List Int → List Int → Bool
  | [], [] => false
  | [], _ :: _ => true
  | _ :: _, [] => false
  | x :: xs, y :: ys => if x = y then lexLt xs ys else decide (x < y)
section
open PySem.SeqAt
open PySem.AutoSeq1 (wpAny_loadPart')
open PySem.MeetsSeq PySem.MeetsSeq2 PySem.MeetsSeq3
end
section
variable {prog : Program} {w : World} {A : Around} {E : Value → Shared → Prop} {s : Shared}
/-- a slice's bound as a place among n (d where it is left out) -/
def sIx (n d : Nat) : Option Int → Nat
  | none => d
  | some v => if v < 0 then (v + (n : Int)).toNat else min v.toNat n
theorem sIx_le (n d : Nat) (hd : d ≤ n) (o : Option Int) : sIx n d o ≤ n := by
  cases o with
  | none => exact hd
  | some v =>
    show (if v < 0 then (v + (n : Int)).toNat else min v.toNat n) ≤ n
    by_cases hv : v < 0
    · rw [if_pos hv]; omega
    · rw [if_neg hv]; exact Nat.min_le_right _ _
end
end HT
namespace L2
open PySem PySem.Spec PyProof.Rows
abbrev TO := St → Hp → (Option Int → Hp → Prop) → Prop
/-- a slice's part (left out, or an int) -/
def PO (X : Cx) (e : Option Expr) (t : TO) : Prop :=
  ∀ (pins : List (Addr × Obj)) (s : Shared) (σ : St) (H : Hp) (Q : Option Int → Hp → Prop), Inv X pins σ H s → t σ H Q →
    wpAny (model X.prog X.w) X.A (evalPart e X.env) (fun u s' => ∃ o H', Inv X pins σ H' s' ∧ IsPart u o ∧ Q o H') X.xe s
def tNoPart : TO := fun _ H Q => Q none H
def tPart (t : TE) : TO := fun σ H Q => t σ H fun x H1 => ∃ i, x = .int i ∧ Q (some i) H1
section
variable {X : Cx} {e : Expr} {te : TE} {lo hi : Option Expr} {tl th : TO} {pos p2 : Pos}
theorem po_none : PO X none tNoPart := by
  intro pins s σ H Q I h
  rw [evalPart_none]
  exact wpAny_pure ⟨none, H, I, .none, h⟩
theorem po_some (h : PE X e te) : PO X (some e) (tPart te) := by
  intro pins s σ H Q I hw
  rw [evalPart_some]
  refine thn (h pins s σ H _ I hw) fun u s1 ⟨x, H1, I1, r1, q1⟩ => ?_
  obtain ⟨i, rfl, q⟩ := q1
  obtain ⟨t, rfl⟩ := r1
  exact ⟨some i, H1, I1, .int i t, q⟩
/-- what a slice of a value is, by values: the slice object stands at sl -/
def SlR (X : Cx) (r : V → Option Int → Option Int → Hp → VK → Prop) : Prop :=
  ∀ (pins : List (Addr × Obj)) (s : Shared) (σ : St) (H : Hp) (x : V) (v vl vu : Value) (lo hi : Option Int) (sl : Addr) (Q : VK), Inv X pins σ H s → RelV x v → s.heap.IsSliceOf sl vl vu .none → IsPart vl lo → IsPart vu hi → r x lo hi H Q →
    ∃ T id, typeLookup (.type T) "__getitem__" = pure (some (.builtin id)) ∧ s.TypeIs v T ∧ wpAny (model X.prog X.w) X.A (getItem v (.ref sl)) (EP X pins σ Q) X.xe s
def tSl (r : V → Option Int → Option Int → Hp → VK → Prop) (te : TE) (tl th : TO) : TE := fun σ H Q => te σ H fun x H1 => tl σ H1 fun l H2 => th σ H2 fun u H3 => r x l u H3 Q
/-- a[lo:hi], any a -/
theorem pe_slice {r : V → Option Int → Option Int → Hp → VK → Prop} (hr : SlR X r) (he : PE X e te) (hl : PO X lo tl) (hu : PO X hi th) : PE X (.Subscript e (.Slice lo hi none p2) pos) (tSl r te tl th) := by
  intro pins s σ H Q I h
  refine Subscript_ (thn (he pins s σ H _ I h) fun v s1 ⟨x, H1, I1, r1, q1⟩ => ?_)
  refine wpAny_Slice (thn (hl pins s1 σ H1 _ I1 q1) fun vl s2 ⟨l, H2, I2, pl, q2⟩ => thn (hu pins s2 σ H2 _ I2 q2) fun vu s3 ⟨u, H3, I3, pu, q3⟩ => ?_)
  rw [evalPart_none]
  refine wpAny_pure ?_
  have I4 : Inv X pins σ H3 { s3 with heap := s3.heap.push { cls := .type "slice", data := .fields #[vl, vu, .none] } } := I3.kept (t' := s3.toks) fun b ob q => Heap.get?_push_of_some _ q
  obtain ⟨T, id, hT, ht, hg⟩ := hr pins { s3 with heap := s3.heap.push { cls := .type "slice", data := .fields #[vl, vu, .none] } } σ H3 x v vl vu l u s3.heap.objs.size Q I4 r1 (Heap.IsSliceOf.new ..) pl pu q3
  show wpAny (model X.prog X.w) X.A (subscriptTail e (.Slice lo hi none p2) v (.ref s3.heap.objs.size)) (EP X pins σ Q) X.xe { s3 with heap := s3.heap.push { cls := .type "slice", data := .fields #[vl, vu, .none] } }
  exact tail_any (ops := [.ref s3.heap.objs.size, v]) ht hT hg (by with_unfolding_all rfl)
/-- the items of xs[lo:hi] -/
def cutV (xs : List V) (lo hi : Option Int) : List V := (xs.drop (HT.sIx xs.length 0 lo)).take (HT.sIx xs.length xs.length hi - HT.sIx xs.length 0 lo)
theorem cutV_length (xs : List V) (lo hi : Option Int) : (cutV xs lo hi).length ≤ xs.length := by
  unfold cutV
  rw [List.length_take, List.length_drop]
  omega
/-- t[lo:hi], not the whole of it (the whole would be t itself) -/
def rSlT (K : PySem.W.Frag) : V → Option Int → Option Int → Hp → VK → Prop := fun x lo hi H Q => ∃ a xs, x = .ref a ∧ SqT K H a xs ∧
  ¬ (HT.sIx xs.length 0 lo = 0 ∧ HT.sIx xs.length xs.length hi = xs.length) ∧ ∀ p, H p = none → Q (.ref p) (upd H p (.tup (cutV xs lo hi)))
def rLtT (K : PySem.W.Frag) : R2 := fun x y H Q => ∃ a b ns ms, x = .ref a ∧ y = .ref b ∧ SqT K H a (ns.map V.int) ∧ SqT K H b (ms.map V.int) ∧ Q (.bl (HT.lexLt ns ms)) H
/-- t + u, t not empty: u empty gives t itself -/
def rCatT (K : PySem.W.Frag) : R2 := fun x y H Q => ∃ a b xs ys, x = .ref a ∧ y = .ref b ∧ SqT K H a xs ∧ SqT K H b ys ∧ xs ≠ [] ∧ xs.length + ys.length ≤ sizeLine ∧
  (ys = [] → Q (.ref a) H) ∧ (ys ≠ [] → ∀ p, H p = none → Q (.ref p) (upd H p (.tup (xs ++ ys))))
end
end L2
namespace L2
open PySem PySem.Spec PyProof.Rows
/-- the place that an index of any sign means -/
def ixN (n : Nat) (i : Int) : Option Nat := if 0 ≤ i then (if i < n then some i.toNat else none) else if -(n : Int) ≤ i then some (i + n).toNat else none
def atI {α : Type} (xs : List α) (i : Int) : Option α := (ixN xs.length i).bind fun j => xs[j]?
theorem ixN_seq {n : Nat} {i : Int} {j : Nat} (h : ixN n i = some j) : seqIndex? i n = some j ∧ j < n ∧ -(n : Int) ≤ i ∧ i < n := by
  unfold ixN at h
  by_cases h0 : 0 ≤ i
  · rw [if_pos h0] at h
    by_cases h1 : i < n
    · rw [if_pos h1] at h
      have e : i.toNat = j := Option.some.inj h
      exact ⟨by rw [seqIndex_of h0 h1, e], by omega, by omega, h1⟩
    · rw [if_neg h1] at h; cases h
  · rw [if_neg h0] at h
    by_cases h1 : -(n : Int) ≤ i
    · rw [if_pos h1] at h
      have e : (i + n).toNat = j := Option.some.inj h
      exact ⟨by rw [seqIndex_neg (by omega) h1, e], by omega, h1, by omega⟩
    · rw [if_neg h1] at h; cases h
theorem atI_get {α : Type} {xs : List α} {i : Int} {v : α} (h : atI xs i = some v) : ∃ j, seqIndex? i xs.length = some j ∧ xs[j]? = some v ∧ j < xs.length ∧ -(xs.length : Int) ≤ i ∧ i < xs.length := by
  unfold atI at h
  cases e : ixN xs.length i with
  | none => rw [e] at h; cases h
  | some j =>
    rw [e] at h
    obtain ⟨h1, h2, h3, h4⟩ := ixN_seq e
    exact ⟨j, h1, h, h2, h3, h4⟩
theorem atI_nat {α : Type} {xs : List α} {j : Nat} {v : α} (h : xs[j]? = some v) : atI xs (j : Int) = some v := by
  have hj : j < xs.length := (List.getElem?_eq_some_iff.mp h).1
  have e : ixN xs.length (j : Int) = some j := by
    unfold ixN
    rw [if_pos (by omega), if_pos (by omega)]; simp
  unfold atI; rw [e]; exact h
/-- what stands as an index of a plain subscript -/
def PlainIx (b : Expr) : Prop := ∀ o i, subscripted b false o i = operate [o, i] (getItem o i)
/-- a subscript by values -/
def IxR (X : Cx) (r : R2) : Prop :=
  ∀ (value slice : Expr) (pins : List (Addr × Obj)) (s : Shared) (σ : St) (H : Hp) (x y : V) (v u : Value) (Q : VK), Inv X pins σ H s → RelV x v → RelV y u → r x y H Q →
    subscripted slice false v u = operate [v, u] (getItem v u) → wpAny (model X.prog X.w) X.A (subscriptTail value slice v u) (EP X pins σ Q) X.xe s
/-- a call of a builtin's method by values: the receiver, the arguments -/
def MtR (X : Cx) (id : String) (r : V → List V → Hp → VK → Prop) : Prop :=
  ∀ (pins : List (Addr × Obj)) (s : Shared) (σ : St) (H : Hp) (x : V) (xs : List V) (v : Value) (us : List Value) (Q : VK), Inv X pins σ H s → RelV x v → Vals xs us → r x xs H Q →
    wpAny (model X.prog X.w) X.A (call (.builtin id) (v :: us)) (EP X pins σ Q) X.xe s
section
variable {X : Cx} {a b : Expr} {ta tb : TE} {pos : Pos}
/-- a[b] -/
theorem pe_ix {r : R2} (hr : IxR X r) (ha : PE X a ta) (hb : PE X b tb) (hs : PlainIx b) : PE X (.Subscript a b pos) (tOp r ta tb) := by
  intro pins s σ H Q I h
  exact Subscript_ (binT ha hb I h fun v u s2 x y H2 I2 rx ry q => hr a b pins s2 σ H2 x y v u Q I2 rx ry q (hs _ _))
def rIxL (K : PySem.W.Frag) : R2 := fun x y H Q => ∃ p xs i v, x = .ref p ∧ y = .int i ∧ SqL K H p xs ∧ atI xs i = some v ∧ Q v H
def rIxT (K : PySem.W.Frag) : R2 := fun x y H Q => ∃ p xs i v, x = .ref p ∧ y = .int i ∧ SqT K H p xs ∧ atI xs i = some v ∧ Q v H
def rIxS : R2 := fun x y H Q => ∃ z i c, x = .str z ∧ y = .int i ∧ z.length ≤ sizeLine ∧ atI z.cps.toList i = some c ∧ Q (.str ⟨#[c]⟩) H
theorem ix_list : IxR X (rIxL X.K) := by
  intro value slice pins s σ H x y v u Q I rx ry h hs
  obtain ⟨p, xs, i, z, rfl, rfl, hq, he, q⟩ := h
  cases rx
  obtain ⟨t, rfl⟩ := ry
  obtain ⟨its, r, pl, hz⟩ := I.list hq
  obtain ⟨j, h1, h2, h3, h4, h5⟩ := atI_get he
  obtain ⟨w, ew, rw'⟩ := r.get h2
  have hl := r.length
  have hn := line63
  have fin : EP X pins σ Q w s := ⟨z, H, I, rw', q⟩
  by_cases h0 : 0 ≤ i
  · have hj : i.toNat = j := by
      rw [seqIndex_of h0 h5] at h1
      exact Option.some.inj h1
    exact item_listR pl.isList h0 (by omega) (by rw [hj]; simpa using ew) fin hs
  · have hj : (i + (its.toArray.size : Int)).toNat = j := by
      rw [seqIndex_neg (by omega) h4] at h1
      rw [List.size_toArray, ← hl]
      exact Option.some.inj h1
    exact subscriptTail_builtinR (x := w) pl.isList.typeIs slot_list_getitem.lookup
      (wpAny_getItem_list_neg (Q := fun r s' => r = w ∧ EP X pins σ Q r s') pl.isList (by omega) (by rw [List.size_toArray] <;> omega) (by omega) (by rw [hj]; simpa using ew) ⟨rfl, fin⟩) hs
theorem ix_str : IxR X rIxS := by
  intro value slice pins s σ H x y v u Q I rx ry h hs
  obtain ⟨z, i, c, rfl, rfl, hz, he, q⟩ := h
  obtain ⟨t, rfl⟩ := rx
  obtain ⟨t', rfl⟩ := ry
  obtain ⟨j, h1, h2, h3, h4, h5⟩ := atI_get he
  have hl : z.cps.toList.length = z.length := by simp [Str.length]
  rw [hl] at h1 h4 h5
  have hn := line63
  exact tail_any (typeIs_str s z t) slot_str_getitem.lookup (getItem_str (c := c) (by
    have e1 : decide (i < -(2 ^ 63 : Int)) = false := decide_eq_false (by omega)
    have e2 : decide (i ≥ 2 ^ 63) = false := decide_eq_false (by omega)
    rw [e1, e2, Bool.or_false]) (by rw [h1]; simpa using h2) ⟨.str ⟨#[c]⟩, H, I.tok _, ⟨_, rfl⟩, q⟩) hs
/-- list, tuple or str -/
def rIx (K : PySem.W.Frag) : R2 := fun x y H Q => rIxL K x y H Q ∨ rIxT K x y H Q ∨ rIxS x y H Q
/-- the list's object behind a store -/
theorem mapSeq_set (its : List Value) (n j : Nat) (u : Value) : Obj.mapSeq (·.setIfInBounds j u) { cls := .type "list", data := .seq its.toArray n } = { cls := .type "list", data := .seq (its.set j u).toArray n } := by
  simp [Obj.mapSeq]
theorem Inv.lst {pins : List (Addr × Obj)} {σ : St} {H : Hp} {s : Shared} {p : Addr} {xs : List V} (I : Inv X pins σ H s) (h : H p = some (.lst xs)) :
    ∃ (its : List Value) (n : Nat), Vals xs its ∧ s.heap.get? p = some { cls := .type "list", data := .seq its.toArray n } ∧ xs.length ≤ sizeLine := by
  obtain ⟨z, its, n, r, e⟩ := I.hok p _ h
  exact ⟨its, n, r, e, z⟩
/-- the list at p is written by an update of its object -/
theorem Inv.lstUpd {pins : List (Addr × Obj)} {σ : St} {H : Hp} {s : Shared} {p : Addr} {xs ys : List V} {its its' : List Value} {n n' : Nat} {f : Obj → Obj} (I : Inv X pins σ H s) (h : H p = some (.lst xs))
    (ho : s.heap.get? p = some { cls := .type "list", data := .seq its.toArray n }) (hf : f { cls := .type "list", data := .seq its.toArray n } = { cls := .type "list", data := .seq its'.toArray n' }) (r : Vals ys its') (hz : ys.length ≤ sizeLine) (t : Nat) :
    Inv X pins σ (upd H p (.lst ys)) { s with heap := s.heap.update p f, toks := t } := by
  have e : (s.heap.update p f).get? p = some { cls := .type "list", data := .seq its'.toArray n' } := by
    rw [Heap.get?_update_self f ho (by rw [hf] <;> rfl), hf]
  refine I.write (x := p) (e := p) (by rw [h]; trivial) (.inl rfl) (fun b u hb q => (Heap.get?_update_other _ _ (Ne.symm hb)).trans q) ⟨_, e⟩ ?_
  exact ⟨hz, its', n', r, e⟩
def rSetL : V → V → V → Hp → (Hp → Prop) → Prop := fun o i v H Q => ∃ p xs k j, o = .ref p ∧ i = .int k ∧ H p = some (.lst xs) ∧ ixN xs.length k = some j ∧ Q (upd H p (.lst (xs.set j v)))
theorem set_list : PSet X rSetL := by
  intro pins s σ H o i v ov iv u Q I ro ri rv h
  obtain ⟨p, xs, k, j, rfl, rfl, hp, hj, q⟩ := h
  cases ro
  obtain ⟨t, rfl⟩ := ri
  obtain ⟨its, n, r, ho, hz⟩ := I.lst hp
  obtain ⟨h1, h2, h3, h4⟩ := ixN_seq hj
  have hl := r.length
  have hn := line63
  have I' : Inv X pins σ (upd H p (.lst (xs.set j v))) { s with heap := s.heap.update p (Obj.mapSeq (·.setIfInBounds j u)) } :=
    I.lstUpd hp ho (mapSeq_set its n j u) (r.set rv j) (by rw [List.length_set]; exact hz) s.toks
  by_cases h0 : 0 ≤ k
  · have hk : k.toNat = j := by
      rw [seqIndex_of h0 h4] at h1
      exact Option.some.inj h1
    exact PySem.W.ki_setAt ho h0 (by omega) (by rw [List.size_toArray, ← hl]; exact h4) (by rw [hk]; exact ⟨_, I', q⟩)
  · have hk : (k + (its.toArray.size : Int)).toNat = j := by
      rw [seqIndex_neg (by omega) h3] at h1
      rw [List.size_toArray, ← hl]
      exact Option.some.inj h1
    exact PySem.W.ki_setBack ho (by omega) (by rw [List.size_toArray, ← hl]; exact h3) (by omega) (by rw [hk]; exact ⟨_, I', q⟩)
theorem slice_bounds (lo hi : Option Int) (n : Nat) : (sliceBounds lo hi none n).1 = ((HT.sIx n 0 lo : Nat) : Int) ∧ (sliceBounds lo hi none n).2.1 = ((HT.sIx n n hi : Nat) : Int) ∧ (sliceBounds lo hi none n).2.2 = 1 := by
  refine ⟨?_, ?_, rfl⟩
  · cases lo with
    | none => simp [sliceBounds, HT.sIx]
    | some i =>
      simp only [sliceBounds, HT.sIx, Option.getD_none, show (1 : Int) > 0 by decide, if_true]
      by_cases h : i < 0
      · simp only [h, if_true] <;> omega
      · simp only [h, if_false] <;> omega
  · cases hi with
    | none => simp [sliceBounds, HT.sIx]
    | some i =>
      simp only [sliceBounds, HT.sIx, Option.getD_none, show (1 : Int) > 0 by decide, if_true]
      by_cases h : i < 0
      · simp only [h, if_true] <;> omega
      · simp only [h, if_false] <;> omega
theorem slicePick_cut (its : List Value) (lo hi : Option Int) : slicePick its.toArray lo hi none = ((its.drop (HT.sIx its.length 0 lo)).take (HT.sIx its.length its.length hi - HT.sIx its.length 0 lo)).toArray := by
  obtain ⟨h1, h2, h3⟩ := slice_bounds lo hi its.toArray.size
  unfold slicePick
  rw [h1, h2, h3]
  simp only [sliceRange_one, pick_run, List.size_toArray] <;> rfl
/-- xs[lo:hi] of a list: a new list -/
def rSlL (K : PySem.W.Frag) : V → Option Int → Option Int → Hp → VK → Prop := fun x lo hi H Q => ∃ a xs, x = .ref a ∧ SqL K H a xs ∧ ∀ p, H p = none → Q (.ref p) (upd H p (.lst (cutV xs lo hi)))
theorem sl_list : SlR X (rSlL X.K) := by
  intro pins s σ H x v vl vu lo hi sl Q I rx hs pl pu h
  obtain ⟨a, xs, rfl, hx, q⟩ := h
  cases rx
  obtain ⟨its, r, ht, hz⟩ := I.list hx
  have hlen := r.length
  refine ⟨"list", _, slot_list_getitem.lookup, ht.isList.typeIs, ?_⟩
  refine wpAny_getItem_list_slice ht.isList hs pl pu .none (by simp) ?_ (by rw [List.size_toArray] <;> omega)
  rw [slicePick_cut, ← hlen]
  refine ⟨.ref s.heap.objs.size, _, I.laid (t' := s.toks) (o := .lst (cutV xs lo hi)) (fun b ob q => Heap.get?_push_of_some _ q) (Nat.le_refl _) ?_, rfl, q _ (I.hok.fresh (Nat.le_refl _))⟩
  exact ⟨Nat.le_trans (cutV_length xs lo hi) hz, _, 0, (r.drop (HT.sIx xs.length 0 lo)).take (HT.sIx xs.length xs.length hi - HT.sIx xs.length 0 lo), Heap.get?_push_size _ rfl⟩
def flatV : V → Bool
  | .non => true
  | .bl _ => true
  | .int _ => true
  | .str _ => true
  | _ => false
/-- == of flat values -/
def eqV : V → V → Bool
  | .non, .non => true
  | .bl a, .bl b => a == b
  | .bl a, .int b => (if a then 1 else 0) == b
  | .int a, .bl b => a == (if b then 1 else 0)
  | .int a, .int b => a == b
  | .str a, .str b => a == b
  | _, _ => false
theorem eqAt_V {A : Around} {s : Shared} {y x : V} {u v : Value} (ry : RelV y u) (rx : RelV x v) (fy : flatV y = true) (fx : flatV x = true) : SeqAt.EqAt A s u v (eqV y x) := by
  cases y with
  | non =>
    cases ry
    cases x with
    | non => cases rx; exact SeqAt.EqAt.same _
    | bl b => cases rx; exact SeqAt.EqAt.none_bool b
    | int b => obtain ⟨t, rfl⟩ := rx; exact SeqAt.EqAt.none_int b t
    | str b => obtain ⟨t, rfl⟩ := rx; exact SeqAt.EqAt.none_str b t
    | _ => exact absurd (show false = true from fx) Bool.false_ne_true
  | bl a =>
    cases ry
    cases x with
    | non => cases rx; exact SeqAt.EqAt.bool_none a
    | bl b => cases rx; exact SeqAt.EqAt.bool_bool a b
    | int b => obtain ⟨t, rfl⟩ := rx; exact SeqAt.EqAt.bool_int a b t
    | str b => obtain ⟨t, rfl⟩ := rx; exact SeqAt.EqAt.bool_str a b t
    | _ => exact absurd (show false = true from fx) Bool.false_ne_true
  | int a =>
    obtain ⟨t', rfl⟩ := ry
    cases x with
    | non => cases rx; exact SeqAt.EqAt.int_none a t'
    | bl b => cases rx; exact SeqAt.EqAt.int_bool a t' b
    | int b => obtain ⟨t, rfl⟩ := rx; exact SeqAt.EqAt.int_int a t' b t
    | str b => obtain ⟨t, rfl⟩ := rx; exact SeqAt.EqAt.int_str a t' b t
    | _ => exact absurd (show false = true from fx) Bool.false_ne_true
  | str a =>
    obtain ⟨t', rfl⟩ := ry
    cases x with
    | non => cases rx; exact SeqAt.EqAt.str_none a t'
    | bl b => cases rx; exact SeqAt.EqAt.str_bool a t' b
    | int b => obtain ⟨t, rfl⟩ := rx; exact SeqAt.EqAt.str_int a t' b t
    | str b => obtain ⟨t, rfl⟩ := rx; exact SeqAt.EqAt.str_str a t' b t
    | _ => exact absurd (show false = true from fx) Bool.false_ne_true
  | _ => exact absurd (show false = true from fy) Bool.false_ne_true
/-- the items' answers, read off the values (a value's own answer does not lean on its token) -/
def eqU (x : V) (u : Value) : Bool := match u with
  | .none => eqV .non x
  | .bool b => eqV (.bl b) x
  | .int i _ => eqV (.int i) x
  | .str z _ => eqV (.str z) x
  | _ => false
theorem eqU_of {x y : V} {u : Value} (r : RelV y u) (f : flatV y = true) : eqU x u = eqV y x := by
  cases y with
  | non => cases r; rfl
  | bl b => cases r; rfl
  | int i => obtain ⟨t, rfl⟩ := r; rfl
  | str z => obtain ⟨t, rfl⟩ := r; rfl
  | _ => exact absurd (show false = true from f) Bool.false_ne_true
theorem any_eqU {x : V} : ∀ {xs : List V} {us : List Value}, Vals xs us → xs.all flatV = true → us.any (eqU x) = xs.any fun y => eqV y x
  | _, _, .nil, _ => rfl
  | y :: xs, u :: us, .cons r t, f => by
    rw [List.all_cons, Bool.and_eq_true] at f
    rw [List.any_cons, List.any_cons, eqU_of r f.1, any_eqU t f.2]
theorem mem_eqAt {A : Around} {s : Shared} {x : V} {v : Value} (rx : RelV x v) (fx : flatV x = true) : ∀ {xs : List V} {us : List Value}, Vals xs us → xs.all flatV = true → ∀ u ∈ us, SeqAt.EqAt A s u v (eqU x u)
  | _, _, .nil, _ => fun u hu => by cases hu
  | y :: xs, u :: us, .cons r t, f => fun u' hu => by
    rw [List.all_cons, Bool.and_eq_true] at f
    rcases List.mem_cons.mp hu with rfl | hu
    · rw [eqU_of r f.1]; exact eqAt_V r rx f.1 fx
    · exact mem_eqAt rx fx t f.2 u' hu
def inV (x : V) (xs : List V) : Bool := xs.any fun y => eqV y x
/-- x in a list or tuple of flat items -/
def rIn (K : PySem.W.Frag) (neg : Bool) : R2 := fun x y H Q => ∃ p xs, y = .ref p ∧ (SqL K H p xs ∨ SqT K H p xs) ∧ flatV x = true ∧ xs.all flatV = true ∧ Q (.bl (if neg then !inV x xs else inV x xs)) H
theorem op_in_seq : OpR X (compareOp .In) (rIn X.K false) := by
  intro pins s σ H x y v u Q I rx ry h
  obtain ⟨p, xs, rfl, hq, fx, fs, q⟩ := h
  cases ry
  rcases hq with hq | hq
  · obtain ⟨its, r, pl, hz⟩ := I.list hq
    refine SeqAt.in_listAt (eqU x) pl.isList (fun w hw => mem_eqAt rx fx r fs w (by simpa using hw)) ⟨.bl _, H, I, rfl, ?_⟩
    rw [show its.toArray.any (eqU x) = its.any (eqU x) by simp, any_eqU r fs]
    exact q
  · obtain ⟨its, r, pl, hz⟩ := I.tuple hq
    refine SeqAt.in_tupleAt (eqU x) pl (fun w hw => mem_eqAt rx fx r fs w (by simpa using hw)) ⟨.bl _, H, I, rfl, ?_⟩
    rw [show its.toArray.any (eqU x) = its.any (eqU x) by simp, any_eqU r fs]
    exact q
theorem call_len_seq : CallR X (.builtin "len") (fun xs H Q => ∃ p ys, xs = [.ref p] ∧ (SqL X.K H p ys ∨ SqT X.K H p ys) ∧ Q (.int ys.length) H) := by
  intro pins s σ H xs us Q I r h
  obtain ⟨p, ys, rfl, hq, q⟩ := h
  obtain ⟨u, rfl, rx⟩ := vals1 r
  cases rx
  have hn := line63
  rcases hq with hq | hq
  · obtain ⟨its, r', pl, hz⟩ := I.list hq
    have hlen := r'.length
    exact Calls.call_len_list pl.isList (by simp only [List.size_toArray] <;> omega) ⟨.int ys.length, H, I.tok _, ⟨s.toks + 1, by rw [List.size_toArray, hlen]⟩, q⟩
  · obtain ⟨its, r', pl, hz⟩ := I.tuple hq
    have hlen := r'.length
    exact len_tuple pl (by simp only [List.size_toArray] <;> omega) ⟨.int ys.length, H, I.tok _, ⟨s.toks + 1, by rw [List.size_toArray, hlen]⟩, q⟩
theorem call_len_str : CallR X (.builtin "len") (fun xs H Q => ∃ z, xs = [.str z] ∧ z.length ≤ sizeLine ∧ Q (.int z.length) H) := by
  intro pins s σ H xs us Q I r h
  obtain ⟨z, rfl, hz, q⟩ := h
  obtain ⟨u, rfl, t, rfl⟩ := vals1 r
  have hn := line63
  exact len_str (by omega) ⟨.int z.length, H, I.tok _, ⟨_, rfl⟩, q⟩
/-- the value is of that builtin type -/
def tyV (K : PySem.W.Frag) (T : String) (x : V) (H : Hp) : Prop := match x with
  | .str _ => T = "str"
  | .int _ => T = "int"
  | .ref p => (T = "list" ∧ ∃ xs, SqL K H p xs) ∨ (T = "tuple" ∧ ∃ o, K.lookup p = some o ∧ o.cls = .type "tuple" ∧ o.dict = none) ∨
      (T = "dict" ∧ ((∃ kvs, H p = some (.dK kvs)) ∨ ∃ kvs, H p = some (.dT kvs))) ∨ (T = "set" ∧ ∃ S n, H p = some (.set S n))
  | _ => False
theorem tyV_is {pins : List (Addr × Obj)} {σ : St} {H : Hp} {s : Shared} {T : String} {x : V} {v : Value} (I : Inv X pins σ H s) (r : RelV x v) (ty : tyV X.K T x H) :
    s.TypeIs v T ∧ ∀ a, v = .ref a → ∃ ob, s.heap.get? a = some ob ∧ ob.dict = none := by
  cases x with
  | str z =>
    obtain ⟨t, rfl⟩ := r
    cases (show T = "str" from ty)
    exact ⟨typeIs_str s z t, fun _ e => nomatch e⟩
  | int i =>
    obtain ⟨t, rfl⟩ := r
    cases (show T = "int" from ty)
    exact ⟨typeIs_int s i t, fun _ e => nomatch e⟩
  | ref p =>
    cases r
    rcases ty with ⟨rfl, xs, hq⟩ | ⟨rfl, o, hk, hc, hd⟩ | ⟨rfl, hk⟩ | ⟨rfl, S, n, hk⟩
    · obtain ⟨its, _, pl, _⟩ := I.list hq
      refine ⟨pl.isList.typeIs, fun a e => ?_⟩
      cases e
      obtain ⟨o, n, e, c, hd, _⟩ := pl
      exact ⟨o, e, hd⟩
    · refine ⟨⟨o, I.kIn p o hk, hc⟩, fun a e => ?_⟩
      cases e
      exact ⟨o, I.kIn _ o hk, hd⟩
    · have z : ∃ o, s.heap.get? p = some o ∧ o.ExactDict := by
        rcases hk with ⟨kvs, hk⟩ | ⟨kvs, hk⟩
        · obtain ⟨_, _, _, _, o, _, _, e, ex, _⟩ := I.hok p _ hk
          exact ⟨o, e, ex⟩
        · obtain ⟨_, _, _, _, o, _, _, e, ex, _⟩ := I.hok p _ hk
          exact ⟨o, e, ex⟩
      obtain ⟨o, e, ex⟩ := z
      refine ⟨⟨o, e, ex.1⟩, fun a e2 => ?_⟩
      cases e2
      exact ⟨o, e, ex.2.1⟩
    · obtain ⟨o, _, _, _, e, ex, _⟩ := I.hok p _ hk
      refine ⟨⟨o, e, ex.1⟩, fun a e2 => ?_⟩
      cases e2
      exact ⟨o, e, ex.2.1⟩
  | _ => exact False.elim ty
def tBM0 (K : PySem.W.Frag) (T : String) (r : V → List V → Hp → VK → Prop) (to : TE) : TE := fun σ H Q => to σ H fun x H1 => tyV K T x H1 ∧ r x [] H1 Q
def tBM (K : PySem.W.Frag) (T : String) (r : V → List V → Hp → VK → Prop) (to : TE) (t : TA) : TE := fun σ H Q => to σ H fun x H1 => tyV K T x H1 ∧ t σ H1 fun xs H2 => r x xs H2 Q
variable {o e : Expr} {es : List Expr} {to : TE} {t : TA} {name : Str} {apos cpos : Pos} {T id : String} {r : V → List V → Hp → VK → Prop}
theorem pe_bm (pa : PlainAttrs T) (slot : Slot T name id) (hty : typeOf (.builtin id) = pure (.type "method_descriptor")) (hm : MtR X id r) (ho : PE X o to) (ha : PA X (e :: es) t)
    (hbase : attributeBase o name X.env (eval o X.env) = eval o X.env := by rfl)
    (hfew : ((backTo cpos (starEach (e :: es) X.env)).all (fun x => !x.1) && (backToKw cpos (keywordEach [] X.env)).all (fun x => x.1.isSome)
      && decide ((e :: es).length + ([] : List Keyword).length + (if ([] : List Keyword).isEmpty then 0 else 1) < 30)) = true := by rfl)
    (hline : (apos.endLine == cpos.line) = true := by rfl) (hs : starEach (e :: es) X.env = (false, eval e X.env) :: starEach es X.env := by rfl) (hplain : (backTo cpos (starEach es X.env)).any (·.1) = false := by rfl) :
    PE X (.Call (.Attribute o name apos) (e :: es) [] cpos) (tBM X.K T r to t) := by
  intro pins s σ H Q I h
  refine wpAny_Call_method_late hbase hfew hline rfl (thn (ho pins s σ H _ I h) fun v s1 ⟨x, H1, I1, r1, ty, q1⟩ => ?_)
  obtain ⟨h1, h2⟩ := tyV_is I1 r1 ty
  refine ⟨T, id, pa, slot, hty, h1, h2, ?_⟩
  have hA := ha cpos pins s1 σ H1 _ I1 q1
  rw [hs] at hA ⊢
  refine Calls.callWith_builtin (by show (false || (backTo cpos (starEach es X.env)).any (·.1)) = false; rw [hplain] <;> rfl) (Calls.evalArgs_plain ?_)
  exact thn hA fun us s2 ⟨vs, H2, I2, r2, q2⟩ => hm pins s2 σ H2 x vs v us Q I2 r1 r2 q2
/- xs.append(e), list.index on a module's tuple .. are MtR facts of 06m -/
end
end L2
namespace L2
open PySem PySem.Spec PyProof.Rows
def MtM (X : Cx) (id : String) (r : V → List V → Hp → VK → Prop) : Prop :=
  ∀ (pins : List (Addr × Obj)) (s : Shared) (σ : St) (H : Hp) (x : V) (xs : List V) (v : Value) (us : List Value) (Q : VK), Inv X pins σ H s → RelV x v → Vals xs us → r x xs H Q →
    wpAny (model X.prog X.w) X.A (call (.builtin id) (v :: us)) (EP X pins σ Q) X.xe s
theorem Vals.one : ∀ {x : V} {us : List Value}, Vals [x] us → ∃ u, us = [u] ∧ RelV x u
  | _, _, .cons r .nil => ⟨_, rfl, r⟩
theorem Vals.zero : ∀ {us : List Value}, Vals [] us → us = []
  | _, .nil => rfl
theorem Vals.dropLast {xs : List V} {us : List Value} (h : Vals xs us) : Vals xs.dropLast us.dropLast := by
  induction h with
  | nil => exact .nil
  | cons r t ih =>
    cases t with
    | nil => exact .nil
    | cons q t' => exact .cons r ih
theorem Vals.eraseIdx : ∀ {xs : List V} {us : List Value} (i : Nat), Vals xs us → Vals (xs.eraseIdx i) (us.eraseIdx i)
  | _, _, _, .nil => .nil
  | _, _, 0, .cons _ t => t
  | _, _, i + 1, .cons r t => .cons r (Vals.eraseIdx i t)
theorem Vals.reverse {xs : List V} {us : List Value} (h : Vals xs us) : Vals xs.reverse us.reverse := by
  induction h with
  | nil => exact .nil
  | cons r t ih => rw [List.reverse_cons, List.reverse_cons]; exact Vals.append ih (.cons r .nil)
theorem Vals.rep {xs : List V} {us : List Value} (h : Vals xs us) : ∀ k : Nat, Vals (List.replicate k xs).flatten (List.replicate k us).flatten
  | 0 => .nil
  | k + 1 => by
    rw [List.replicate_succ, List.replicate_succ, List.flatten_cons, List.flatten_cons]
    exact Vals.append h (Vals.rep h k)
theorem foldl_rep (its : List Value) : ∀ (k : Nat) (acc : List Value),
    List.foldl (fun x1 x2 => x1 ++ x2) acc.toArray (List.replicate k its.toArray) = (acc ++ (List.replicate k its).flatten).toArray
  | 0, acc => by simp
  | k + 1, acc => by
    have e : acc.toArray ++ its.toArray = (acc ++ its).toArray := by simp
    have e2 : (acc ++ its) ++ (List.replicate k its).flatten = acc ++ (List.replicate (k + 1) its).flatten := by
      rw [List.replicate_succ, List.flatten_cons, List.append_assoc]
    rw [← e2, ← foldl_rep its k (acc ++ its), ← e, List.replicate_succ, List.foldl_cons]
section
variable {X : Cx} {pins : List (Addr × Obj)} {σ : St} {H : Hp} {s : Shared} {l b : Addr} {xs ys zs : List V}
theorem Inv.lset {its its' : List Value} {n : Nat} {f : Array Value → Array Value} {t' : Nat} (I : Inv X pins σ H s) (hH : H l = some (.lst xs))
    (e : s.heap.get? l = some { cls := .type "list", data := .seq its.toArray n }) (hf : f its.toArray = its'.toArray) (hv : Vals ys its') (hz : ys.length ≤ sizeLine) :
    Inv X pins σ (upd H l (.lst ys)) { s with heap := s.heap.update l (Obj.mapSeq f), toks := t' } := by
  have q := PySem.IsL.update e f
  rw [hf] at q
  refine I.write (x := l) (e := l) (by rw [hH]; exact trivial) (.inl rfl) (fun b' u hb hu => (Heap.get?_update_other s.heap (Obj.mapSeq f) (Ne.symm hb)).trans hu) ⟨_, q⟩ ?_
  exact ⟨hz, its', _, hv, q⟩
theorem Inv.lnew {its : List Value} {t' : Nat} (I : Inv X pins σ H s) (hv : Vals ys its) (hz : ys.length ≤ sizeLine) :
    Inv X pins σ (upd H s.heap.objs.size (.lst ys)) { s with heap := s.heap.push { cls := .type "list", data := .seq its.toArray }, toks := t' } :=
  I.laid (fun _ _ q => Heap.get?_push_of_some _ q) (Nat.le_refl _) ⟨hz, its, 0, hv, Heap.get?_push_size _ rfl⟩
theorem Inv.fresh (I : Inv X pins σ H s) : H s.heap.objs.size = none := I.hok.fresh (Nat.le_refl _)
theorem Inv.lstM (I : Inv X pins σ H s) (hH : H l = some (.lst xs)) : xs.length ≤ sizeLine ∧ ∃ (its : List Value) (n : Nat), Vals xs its ∧ xs.length = its.length ∧ s.heap.get? l = some { cls := .type "list", data := .seq its.toArray n } := by
  obtain ⟨z, its, n, r, e⟩ := I.hok l _ hH
  exact ⟨z, its, n, r, r.length, e⟩
theorem notLongL {n : Nat} (h : n ≤ sizeLine) : Builtin.List.listTooLong n = false := by
  unfold Builtin.List.listTooLong
  exact decide_eq_false (by omega)
end
section
variable {X : Cx}
def rAppend : V → List V → Hp → VK → Prop := fun x vs H Q => ∃ l xs y, x = .ref l ∧ vs = [y] ∧ H l = some (.lst xs) ∧ xs.length < sizeLine ∧ Q .non (upd H l (.lst (xs ++ [y])))
theorem mt_append : MtM X "list.append" rAppend := by
  intro pins s σ H x vs v us Q I rx rv h
  obtain ⟨l, xs, y, rfl, rfl, hH, hz, q⟩ := h
  cases rx
  obtain ⟨u, rfl, ru⟩ := rv.one
  obtain ⟨z, its, n, r, hl, e⟩ := I.lstM hH
  refine call_meets F.slot_list_append ⟨_, e, rfl⟩ F.entry_list_append (F.args_list_append_2 _ _) (PySem.list_append l its.toArray n u (by rw [List.size_toArray]; omega)) ⟨e, ?_⟩
  refine ⟨.non, _, I.lset (its' := its ++ [u]) hH e (by simp) (r.append (.cons ru .nil)) ?_, rfl, q⟩
  rw [List.length_append, List.length_singleton]
  omega
def rExtend : V → List V → Hp → VK → Prop := fun x vs H Q => ∃ l b xs zs, x = .ref l ∧ vs = [.ref b] ∧ H l = some (.lst xs) ∧ H b = some (.lst zs) ∧ xs.length + zs.length ≤ sizeLine ∧ Q .non (upd H l (.lst (xs ++ zs)))
def rPop : V → List V → Hp → VK → Prop := fun x vs H Q => ∃ l xs y, x = .ref l ∧ vs = [] ∧ H l = some (.lst xs) ∧ xs[xs.length - 1]? = some y ∧ Q y (upd H l (.lst xs.dropLast))
def rPopAt : V → List V → Hp → VK → Prop := fun x vs H Q => ∃ l xs i k y, x = .ref l ∧ vs = [.int i] ∧ H l = some (.lst xs) ∧ -(2 ^ 63) ≤ i ∧ i < 2 ^ 63 ∧ seqIndex? i xs.length = some k ∧ xs[k]? = some y ∧ Q y (upd H l (.lst (xs.eraseIdx k)))
def rReverse : V → List V → Hp → VK → Prop := fun x vs H Q => ∃ l xs, x = .ref l ∧ vs = [] ∧ H l = some (.lst xs) ∧ Q .non (upd H l (.lst xs.reverse))
def rClear : V → List V → Hp → VK → Prop := fun x vs H Q => ∃ l xs, x = .ref l ∧ vs = [] ∧ H l = some (.lst xs) ∧ Q .non (upd H l (.lst []))
def rCat : R2 := fun x y H Q => ∃ l b xs zs, x = .ref l ∧ y = .ref b ∧ H l = some (.lst xs) ∧ H b = some (.lst zs) ∧ xs.length + zs.length ≤ sizeLine ∧ ∀ p, H p = none → Q (.ref p) (upd H p (.lst (xs ++ zs)))
theorem op_cat : OpR X (binaryOp .Add) rCat := by
  intro pins s σ H x y v u Q I rx ry h
  obtain ⟨l, b, xs, zs, rfl, rfl, hH, hB, hz, q⟩ := h
  cases rx
  cases ry
  obtain ⟨z, its, n, r, hl, e⟩ := I.lstM hH
  obtain ⟨z2, its2, n2, r2, hl2, e2⟩ := I.lstM hB
  refine PySem.P.add_list e e2 ?_ (by rw [List.size_toArray, List.size_toArray]; omega)
  have ea : its.toArray ++ its2.toArray = (its ++ its2).toArray := by simp
  rw [ea]
  exact ⟨.ref _, _, I.lnew (t' := s.toks) (r.append r2) (by rw [List.length_append]; omega), rfl, q _ I.fresh⟩
/-- a list times an int (a negative one is nothing) -/
def rRep : R2 := fun x y H Q => ∃ l k xs, x = .ref l ∧ y = .int k ∧ H l = some (.lst xs) ∧ -(2 ^ 63) ≤ k ∧ k < 2 ^ 63 ∧ xs.length * k.toNat ≤ sizeLine ∧
  ∀ p, H p = none → Q (.ref p) (upd H p (.lst (List.replicate k.toNat xs).flatten))
theorem len_rep {α : Type} (xs : List α) (k : Nat) : (List.replicate k xs).flatten.length = k * xs.length := by
  induction k with
  | zero => simp
  | succ k ih => rw [List.replicate_succ, List.flatten_cons, List.length_append, ih, Nat.succ_mul, Nat.add_comm]
theorem op_rep : OpR X (binaryOp .Mult) rRep := by
  intro pins s σ H x y v u Q I rx ry h
  obtain ⟨l, k, xs, rfl, rfl, hH, h1, h2, hz, q⟩ := h
  cases rx
  obtain ⟨t, rfl⟩ := ry
  obtain ⟨z, its, n, r, hl, e⟩ := I.lstM hH
  have hlen : its.toArray.size * k.toNat ≤ sizeLine := by rw [List.size_toArray, ← hl]; exact hz
  have hcap : ¬ its.toArray.size * k.toNat > (2 ^ 63 - 1) / 8 := by
    have : (sizeLine : Nat) ≤ (2 ^ 63 - 1) / 8 := by decide
    omega
  have hfit : ¬ (!Builtin.List.listFitsIndex k) = true := by
    rw [fitsIndex_both h1 h2]
    exact Bool.false_ne_true
  have hlong : ¬ Builtin.List.listTooLong (its.toArray.size * k.toNat) = true := by
    rw [notLongL hlen]
    exact Bool.false_ne_true
  have hnew : List.foldl (fun x1 x2 => x1 ++ x2) #[] (List.replicate (if its.toArray.isEmpty = true then 0 else k.toNat) its.toArray) = (List.replicate k.toNat its).flatten.toArray := by
    have f0 : ∀ m : Nat, List.foldl (fun x1 x2 => x1 ++ x2) #[] (List.replicate m its.toArray) = (List.replicate m its).flatten.toArray := fun m => by
      have := foldl_rep its m []
      rw [List.nil_append] at this
      exact this
    rw [f0]
    cases its with
    | nil => simp
    | cons a r' => rw [if_neg (by simp)]
  refine wpAny_binaryOp_repeat_ref (T := "list") (U := "int") (by decide) ⟨_, e, rfl⟩ (fun s' => typeIs_int s' k t) noFill_list_mul F.fills_int_mul F.slot_int_rmul repeat_list F.slot_int_index.lookup
    (call_meets F.slot_int_rmul (typeIs_int s k t) F.entry_int_rmul (F.args_int_rmul_2 _ _) (int___rmul___int_list k t l its.toArray n)
      ⟨e, rfl, ⟨_, e, rfl⟩, call_meets F.slot_list_mul ⟨_, e, rfl⟩ F.entry_list_mul (F.args_list_mul_2 _ _) (AutoListH.list___mul___list_int_3 l its.toArray n k t hfit hcap hlong) ⟨e, ?_⟩⟩)
  rw [hnew]
  exact ⟨.ref _, _, I.lnew (t' := s.toks) (r.rep k.toNat) (by rw [len_rep, Nat.mul_comm]; exact hz), rfl, q _ I.fresh⟩
end
section
variable {prog : Program} {w : World} {A : Around} {E : Value → Shared → Prop} {s : Shared}
end
section
variable {X : Cx}
end
end L2
namespace L2
open PySem PySem.Spec PyProof.Rows
theorem Vals.ints : ∀ {ns : List Int} {us : List Value}, Vals (ns.map V.int) us → IntsAre us ns
  | [], us, h => by
    rw [List.map_nil] at h
    cases h
    exact IntsAre.nil
  | n :: ns, us, h => by
    rw [List.map_cons] at h
    cases h with
    | cons r t =>
      obtain ⟨k, rfl⟩ := r
      exact IntsAre.cons n k (Vals.ints t)
theorem Vals.strs : ∀ {xs : List Str} {us : List Value}, Vals (xs.map V.str) us → StrsAre us xs
  | [], us, h => by
    rw [List.map_nil] at h
    cases h
    exact StrsAre.nil
  | x :: xs, us, h => by
    rw [List.map_cons] at h
    cases h with
    | cons r t =>
      obtain ⟨k, rfl⟩ := r
      exact StrsAre.cons x k (Vals.strs t)
theorem Vals.bls : ∀ {bs : List Bool} {us : List Value}, Vals (bs.map V.bl) us → us = bs.map Value.bool
  | [], us, h => by
    rw [List.map_nil] at h
    cases h
    rfl
  | b :: bs, us, h => by
    rw [List.map_cons] at h
    cases h with
    | cons r t =>
      cases r
      rw [Vals.bls t, List.map_cons]
theorem Vals.ref1 {a : Addr} {us : List Value} (r : Vals [V.ref a] us) : us = [Value.ref a] := by
  cases r with
  | cons r t =>
    cases t
    cases r
    rfl
section
variable {prog : Program} {w : World} {A : Around} {E : Value → Shared → Prop} {s : Shared} {l : Addr} {its : List Value} {ns : List Int} {Q : Value → Shared → Prop}
end
section
variable {X : Cx}
/-- sum(xs) of a list of ints -/
def rSum (K : PySem.W.Frag) : List V → Hp → VK → Prop := fun vs H Q => ∃ (a : Addr) (ns : List Int), vs = [V.ref a] ∧ SqL K H a (ns.map V.int) ∧ Q (.int ns.sum) H
/-- max(xs), min(xs) of a list of ints -/
def rMax (K : PySem.W.Frag) : List V → Hp → VK → Prop := fun vs H Q => ∃ (a : Addr) (ns : List Int), vs = [V.ref a] ∧ SqL K H a (ns.map V.int) ∧ 0 < ns.length ∧ ∀ m, m ∈ ns → (∀ y, y ∈ ns → y ≤ m) → Q (.int m) H
def rMin (K : PySem.W.Frag) : List V → Hp → VK → Prop := fun vs H Q => ∃ (a : Addr) (ns : List Int), vs = [V.ref a] ∧ SqL K H a (ns.map V.int) ∧ 0 < ns.length ∧ ∀ m, m ∈ ns → (∀ y, y ∈ ns → m ≤ y) → Q (.int m) H
def rSorted (K : PySem.W.Frag) : List V → Hp → VK → Prop := fun vs H Q => ∃ (a : Addr) (ns : List Int), vs = [V.ref a] ∧ SqL K H a (ns.map V.int) ∧ ns.length < 64 ∧
  ∀ (ns' : List Int) (p : Addr), ns'.Perm ns → ns'.Pairwise (· ≤ ·) → H p = none → Q (.ref p) (upd H p (.lst (ns'.map V.int)))
def rSortedS (K : PySem.W.Frag) : List V → Hp → VK → Prop := fun vs H Q => ∃ (a : Addr) (xs : List Str), vs = [V.ref a] ∧ SqL K H a (xs.map V.str) ∧ xs.length < 64 ∧
  ∀ (ys : List Str) (p : Addr), ys.Perm xs → sortedS ys = true → H p = none → Q (.ref p) (upd H p (.lst (ys.map V.str)))
/-- xs.sort(), ints -/
def rSort : V → List V → Hp → VK → Prop := fun x xs H Q => ∃ (a : Addr) (ns : List Int), x = V.ref a ∧ xs = [] ∧ H a = some (.lst (ns.map V.int)) ∧ ns.length < 64 ∧
  ∀ ns' : List Int, ns'.Perm ns → ns'.Pairwise (· ≤ ·) → Q .non (upd H a (.lst (ns'.map V.int)))
end
section
variable {X : Cx}
def rIndex (K : PySem.W.Frag) : V → List V → Hp → VK → Prop := fun x xs H Q => ∃ (a : Addr) (ys : List V) (y : V) (j : Nat) (z : V), x = V.ref a ∧ xs = [y] ∧ SqL K H a ys ∧ flatV y = true ∧ ys.all flatV = true ∧ ys[j]? = some z ∧ eqV z y = true ∧
  (∀ (m : Nat) (z' : V), m < j → ys[m]? = some z' → eqV z' y = false) ∧ Q (.int (j : Nat)) H
end
section
variable {X : Cx}
end
theorem iter_any {prog : Program} {w : World} {A : Around} {E : Value → Shared → Prop} {s : Shared} {l : Addr} {items : Array Value} {Q : Value → Shared → Prop} (hl : s.heap.IsList l items)
    (h : ∀ s₂ : Shared, s₂ = { s with heap := s.heap.push { cls := .type "list_iterator", data := .fields #[.ref l, .int 0 0] } } →
      (s₂.heap.IsListIter s.heap.objs.size l 0 ∧ s₂.heap.IsList l items) → l ≠ s.heap.objs.size → Q (.ref s.heap.objs.size) s₂) : wpAny (model prog w) A (pyIter (.ref l)) Q E s := by
  have hlt : l < s.heap.objs.size := by obtain ⟨_, e, _⟩ := hl; exact Heap.lt_size e
  exact wpAny_pyIter_list hl (h _ rfl ⟨⟨_, Heap.get?_push_size _ rfl, rfl, rfl⟩, hl.push _⟩ (Nat.ne_of_lt hlt))
theorem truth_bools {prog : Program} {w : World} {A : Around} {bs : List Bool} {its : List Value} (e : its = bs.map Value.bool) :
    TruthOf prog w A (fun i v => its.toArray[i]? = some v) (fun i => bs.getD i false) := fun i v s Q E hv hq => by
  have hv' : its[i]? = some v := by simpa using hv
  rw [e, List.getElem?_map] at hv'
  obtain ⟨b, hb, rfl⟩ := Option.map_eq_some_iff.mp hv'
  have hg : bs.getD i false = b := by rw [List.getD_eq_getElem?_getD, hb] <;> rfl
  have hq' : Q (bs.getD i false) s := hq
  rw [hg] at hq'
  exact wpAny_truthy_bool hq'
theorem all_range : ∀ bs : List Bool, (List.range bs.length).all (fun i => bs.getD i false) = bs.all id
  | [] => rfl
  | b :: bs => by
    rw [List.length_cons, List.range_succ_eq_map, List.all_cons, List.all_map, List.all_cons, ← all_range bs]
    all_goals rfl
section
variable {X : Cx}
def rAny (K : PySem.W.Frag) : List V → Hp → VK → Prop := fun vs H Q => ∃ (a : Addr) (bs : List Bool), vs = [V.ref a] ∧ SqL K H a (bs.map V.bl) ∧ Q (.bl (bs.any id)) H
def rAll (K : PySem.W.Frag) : List V → Hp → VK → Prop := fun vs H Q => ∃ (a : Addr) (bs : List Bool), vs = [V.ref a] ∧ SqL K H a (bs.map V.bl) ∧ Q (.bl (bs.all id)) H
theorem cr_all (hc : X.calm = true) : CallR X (.builtin "all") (rAll X.K) := by
  intro pins s σ H vs us Q I r h
  obtain ⟨a, bs, rfl, hs, q⟩ := h
  obtain ⟨its, rv, hl, _⟩ := I.list hs
  rw [Vals.ref1 r]
  have hb := rv.bls
  refine call_all_walk (iter_any hl.isList fun s₂ e2 st hne => ?_)
  subst e2
  refine ⟨_, _, _, _, _, _, _, rfl, Walks.list (A := X.A.in1) (I.ok.hd hc) _ a hne its.toArray, st, truth_bools hb, fun h' tk hk => ?_⟩
  refine ⟨.bl _, H, I.kept fun b o eo => hk b o (fun hmem => ?_) (Heap.get?_push_of_some _ eo), ?_, q⟩
  · rcases List.mem_cons.mp hmem with e1 | hmem
    · exact absurd (e1 ▸ Heap.lt_size eo) (Nat.lt_irrefl _)
    · cases hmem
  · show Value.bool _ = Value.bool _
    rw [← all_range, hb, List.size_toArray, List.length_map]
end
mutual
inductive Dp (K : PySem.W.Frag) (H : Hp) : V → PyData → Prop
  | non : Dp K H .non .none
  | bl (b : Bool) : Dp K H (.bl b) (.bool b)
  | int (i : Int) : Dp K H (.int i) (.int i)
  | str (x : Str) : Dp K H (.str x) (.str x)
  | lst {a : Addr} {xs : List V} {ds : List PyData} : SqL K H a xs → DpAll K H xs ds → Dp K H (.ref a) (.list ds)
  | tup {a : Addr} {xs : List V} {ds : List PyData} : SqT K H a xs → DpAll K H xs ds → Dp K H (.ref a) (.tuple ds)
inductive DpAll (K : PySem.W.Frag) (H : Hp) : List V → List PyData → Prop
  | nil : DpAll K H [] []
  | cons {v : V} {vs : List V} {d : PyData} {ds : List PyData} : Dp K H v d → DpAll K H vs ds → DpAll K H (v :: vs) (d :: ds)
end
section
variable {X : Cx} {pins : List (Addr × Obj)} {σ : St} {H : Hp} {s : Shared}
mutual
theorem Dp.reads (I : Inv X pins σ H s) : ∀ (d : PyData) (v : V) (u : Value), Dp X.K H v d → RelV v u → ∃ as, Reads s.heap u d as
  | .none, _, _, h, r => by
    cases h
    cases r
    exact ⟨_, Reads.none⟩
  | .bool b, _, _, h, r => by
    cases h
    cases r
    exact ⟨_, Reads.bool b⟩
  | .int i, _, _, h, r => by
    cases h
    obtain ⟨t, rfl⟩ := r
    exact ⟨_, Reads.int i t⟩
  | .str x, _, _, h, r => by
    cases h
    obtain ⟨t, rfl⟩ := r
    exact ⟨_, Reads.str x t⟩
  | .list ds, _, _, h, r => by
    cases h with
    | lst hs ha =>
      cases r
      obtain ⟨its, rv, ⟨o, n, ho, hc, _, hd⟩, _⟩ := I.list hs
      obtain ⟨as, hr⟩ := Dp.readsAll I ds _ its ha rv
      exact ⟨_, Reads.list ho hc hd hr⟩
  | .tuple ds, _, _, h, r => by
    cases h with
    | tup hs ha =>
      cases r
      obtain ⟨its, rv, ⟨o, ho, hc, n, hd⟩, _⟩ := I.tuple hs
      obtain ⟨as, hr⟩ := Dp.readsAll I ds _ its ha rv
      exact ⟨_, Reads.tuple ho hc hd hr⟩
  | .dict _, _, _, h, _ => by cases h
theorem Dp.readsAll (I : Inv X pins σ H s) : ∀ (ds : List PyData) (vs : List V) (us : List Value), DpAll X.K H vs ds → Vals vs us → ∃ as, ReadsAll s.heap us ds as
  | [], _, _, h, r => by
    cases h
    cases r
    exact ⟨_, ReadsAll.nil⟩
  | d :: ds, _, _, h, r => by
    cases h with
    | cons h1 h2 =>
      cases r with
      | cons r1 r2 =>
        obtain ⟨as, q1⟩ := Dp.reads I d _ _ h1 r1
        obtain ⟨bs, q2⟩ := Dp.readsAll I ds _ _ h2 r2
        exact ⟨_, ReadsAll.cons q1 q2⟩
end
end
section
variable {X : Cx}
def rEqD (K : PySem.W.Frag) : R2 := fun x y H Q => ∃ d e, Dp K H x d ∧ Dp K H y e ∧ SeqAt.shaped d = true ∧ SeqAt.shaped e = true ∧ Q (.bl (PyData.eqv d e)) H
def rNeD (K : PySem.W.Frag) : R2 := fun x y H Q => ∃ d e, Dp K H x d ∧ Dp K H y e ∧ SeqAt.shaped d = true ∧ SeqAt.shaped e = true ∧ Q (.bl (!PyData.eqv d e)) H
theorem op_eqD (hu : X.A.units + 64 < cLine) : OpR X (compareOp .Eq) (rEqD X.K) := by
  intro pins s σ H x y v u Q I rx ry h
  obtain ⟨d, e, hd, he, sd, se, q⟩ := h
  obtain ⟨as, r1⟩ := Dp.reads I d x v hd rx
  obtain ⟨bs, r2⟩ := Dp.reads I e y u he ry
  exact SeqAt.compareEq_shaped r1 r2 sd se hu ⟨.bl _, H, I, rfl, q⟩
end
end L2
namespace L2
open PySem PySem.Spec PyProof.Rows
abbrev CellAt (h : Heap) (c : Addr) (v : Option Value) : Prop := h.IsCell c v
def relS (scope sc : Scope) : Scope :=
  { scope with names := scope.names.map fun (n, k) => if (k == .free && sc.kind == .function && sc.names.lookup n == some .cell) then (n, .cell) else (n, k) }
def cloFrom (cells : List (Str × Addr)) : List (Str × NameKind) → List (Str × Addr) → List (Str × Addr)
  | [], acc => acc
  | (n, k) :: r, acc => if k == .free then cloFrom cells r ((n, (cells.lookup n).getD 0) :: acc) else cloFrom cells r acc
theorem closure_loop (env : Env) (f : Str × NameKind → List (Str × Addr) → Sem (ForInStep (List (Str × Addr))))
    (hf : ∀ n k c, f (n, k) c = if k == .free then (do let a ← cellOf env n; pure (.yield ((n, a) :: c))) else pure (.yield c)) :
    ∀ (names : List (Str × NameKind)) (acc : List (Str × Addr)), (∀ y ∈ names, y.2 = .free → ∃ c, env.cells.lookup y.1 = some c) → forIn names acc f = pure (cloFrom env.cells names acc)
  | [], acc, _ => by rw [List.forIn_nil]; rfl
  | (n, k) :: r, acc, h => by
    rw [List.forIn_cons, hf]
    have ih := fun acc => closure_loop env f hf r acc fun y hy => h y (List.mem_cons_of_mem _ hy)
    unfold cloFrom
    by_cases hk : (k == NameKind.free) = true
    · rw [if_pos hk, if_pos hk]
      obtain ⟨c, hc⟩ := h (n, k) List.mem_cons_self (by simpa using hk)
      have e : cellOf env n = pure c := by unfold cellOf; rw [hc]
      rw [e]
      have e2 : (env.cells.lookup n).getD 0 = c := by rw [hc]; rfl
      rw [e2]
      exact ih _
    · rw [if_neg hk, if_neg hk]
      exact ih _
theorem closure_ok {scope : Scope} {env : Env} (h : ∀ y ∈ scope.names, y.2 = .free → ∃ c, env.cells.lookup y.1 = some c) : closureFor scope env = pure (cloFrom env.cells scope.names []) := by
  simp only [closureFor]
  rw [closure_loop env _ (fun n k c => rfl) scope.names [] h]
  rfl
theorem mem_lookup {α : Type} : ∀ {l : List (Str × α)} {n : Str} {c : α}, (n, c) ∈ l → ∃ c', l.lookup n = some c'
  | (k, v) :: r, n, c, h => by
    rw [List.lookup_cons]
    cases hb : n == k with
    | true => exact ⟨_, rfl⟩
    | false =>
      rcases List.mem_cons.mp h with e | h
      · cases e; simp at hb
      · exact mem_lookup h
theorem cloFrom_mem {cells : List (Str × Addr)} : ∀ {names : List (Str × NameKind)} {acc : List (Str × Addr)} {n : Str} {c : Addr}, (n, c) ∈ cloFrom cells names acc → (n, c) ∈ acc ∨ ((n, .free) ∈ names ∧ c = (cells.lookup n).getD 0)
  | [], _, _, _, h => .inl h
  | (m, k) :: r, acc, n, c, h => by
    unfold cloFrom at h
    split at h
    · rename_i hk
      have hk : k = .free := by simpa using hk
      rcases cloFrom_mem h with h | ⟨h1, h2⟩
      · rcases List.mem_cons.mp h with e | h
        · cases e; exact .inr ⟨hk ▸ List.mem_cons_self, rfl⟩
        · exact .inl h
      · exact .inr ⟨List.mem_cons_of_mem _ h1, h2⟩
    · rcases cloFrom_mem h with h | ⟨h1, h2⟩
      · exact .inl h
      · exact .inr ⟨List.mem_cons_of_mem _ h1, h2⟩
theorem cloFrom_acc {cells : List (Str × Addr)} : ∀ {names : List (Str × NameKind)} {acc : List (Str × Addr)} {p : Str × Addr}, p ∈ acc → p ∈ cloFrom cells names acc
  | [], _, _, h => h
  | (m, k) :: r, acc, p, h => by
    unfold cloFrom
    split
    · exact cloFrom_acc (List.mem_cons_of_mem _ h)
    · exact cloFrom_acc h
theorem cloFrom_has {cells : List (Str × Addr)} : ∀ {names : List (Str × NameKind)} {acc : List (Str × Addr)} {n : Str}, (n, .free) ∈ names → (n, (cells.lookup n).getD 0) ∈ cloFrom cells names acc
  | (m, k) :: r, acc, n, h => by
    unfold cloFrom
    rcases List.mem_cons.mp h with e | h
    · cases e
      exact cloFrom_acc List.mem_cons_self
    · split
      · exact cloFrom_has h
      · exact cloFrom_has h
theorem cells_mem : ∀ {names : List (Str × NameKind)} {h : Heap} {acc : List (Str × Addr)} {x : Str} {c : Addr}, (x, c) ∈ cellsFrom h.objs.size names acc →
    (x, c) ∈ acc ∨ ((x, .cell) ∈ names ∧ h.objs.size ≤ c ∧ CellAt (pushCells h names) c none)
  | [], _, _, _, _, h => .inl h
  | (n, k) :: r, h, acc, x, c, hm => by
    unfold cellsFrom at hm
    unfold pushCells
    split at hm
    · rename_i hk
      rw [if_pos hk]
      have hk : k = .cell := by simpa using hk
      rw [← Heap.size_push h { cls := .type "cell", data := .cell none }] at hm
      rcases cells_mem hm with hm | ⟨h1, h2, h3⟩
      · rcases List.mem_cons.mp hm with e | hm
        · cases e
          exact .inr ⟨hk ▸ List.mem_cons_self, Nat.le_refl _, _, pushCells_keeps r _ _ _ (Heap.get?_push_size _ rfl), rfl⟩
        · exact .inl hm
      · rw [Heap.size_push] at h2
        exact .inr ⟨List.mem_cons_of_mem _ h1, Nat.le_of_succ_le h2, h3⟩
    · rename_i hk
      rw [if_neg hk]
      rcases cells_mem hm with hm | ⟨h1, h2, h3⟩
      · exact .inl hm
      · exact .inr ⟨List.mem_cons_of_mem _ h1, h2, h3⟩
theorem cells_acc : ∀ {names : List (Str × NameKind)} {n : Nat} {acc : List (Str × Addr)} {p : Str × Addr}, p ∈ acc → p ∈ cellsFrom n names acc
  | [], _, _, _, h => h
  | (m, k) :: r, n, acc, p, h => by
    unfold cellsFrom
    split
    · exact cells_acc (List.mem_cons_of_mem _ h)
    · exact cells_acc h
theorem cells_has : ∀ {names : List (Str × NameKind)} {n : Nat} {acc : List (Str × Addr)} {x : Str}, (x, .cell) ∈ names → ∃ c, (x, c) ∈ cellsFrom n names acc
  | (m, k) :: r, n, acc, x, h => by
    unfold cellsFrom
    rcases List.mem_cons.mp h with e | h
    · cases e
      exact ⟨n, cells_acc List.mem_cons_self⟩
    · split
      · exact cells_has h
      · exact cells_has h
theorem cells_inj : ∀ {names : List (Str × NameKind)} {h : Heap} {acc : List (Str × Addr)} {x y : Str} {c : Addr}, (∀ p ∈ acc, p.2 < h.objs.size) → (∀ x y c, (x, c) ∈ acc → (y, c) ∈ acc → x = y) →
    (x, c) ∈ cellsFrom h.objs.size names acc → (y, c) ∈ cellsFrom h.objs.size names acc → x = y
  | [], _, _, _, _, _, _, hi, h1, h2 => hi _ _ _ h1 h2
  | (n, k) :: r, h, acc, x, y, c, hl, hi, h1, h2 => by
    unfold cellsFrom at h1 h2
    split at h1
    · rename_i hk
      rw [if_pos hk] at h2
      rw [← Heap.size_push h { cls := .type "cell", data := .cell none }] at h1 h2
      refine cells_inj (h := h.push _) (fun p hp => ?_) (fun x y c a b => ?_) h1 h2
      · rw [Heap.size_push]
        rcases List.mem_cons.mp hp with rfl | hp
        · exact Nat.lt_succ_self _
        · exact Nat.lt_succ_of_lt (hl p hp)
      · rcases List.mem_cons.mp a with e | a <;> rcases List.mem_cons.mp b with e' | b
        · cases e; cases e'; rfl
        · cases e; exact absurd (hl _ b) (Nat.lt_irrefl _)
        · cases e'; exact absurd (hl _ a) (Nat.lt_irrefl _)
        · exact hi _ _ _ a b
    · rename_i hk
      rw [if_neg hk] at h2
      exact cells_inj hl hi h1 h2
theorem newEnv_comp {M : Model} {A : Around} {E : Value → Shared → Prop} {s : Shared} {scope : Scope} {globals : Addr} {closure : List (Str × Addr)} {qual : Str} {func : Option Addr} {code : Value} {around : Env} {builtins : Addr} {Q : Env → Shared → Prop}
    (h : Q (newEnv scope s.heap.objs.size globals (cellsFrom (s.heap.objs.size + 1) scope.names closure) qual func code (some around) builtins)
      { s with heap := pushCells (s.heap.push { cls := .type "dict", data := .dict #[] }) scope.names }) :
    wpAny M A (newFunctionEnv scope globals closure [] qual func code (some around) builtins) Q E s := by
  simp only [newFunctionEnv, Option.isSome_some, if_true]
  refine wpAny_bind (wpAny_alloc ?_)
  refine wpAny_bind (wpAny_layCells _ (fun n k c => rfl) scope.names closure _ _ ?_)
  rw [show ({ s with heap := s.heap.push { cls := .type "dict", data := .dict #[] } } : Shared).heap.objs.size = s.heap.objs.size + 1 from Heap.size_push ..]
  rw [List.forIn_nil]
  exact wpAny_bind (wpAny_pure (wpAny_pure h))
/-- every name of the written scope, in the scope that runs -/
theorem lookup_relS {sc : Scope} : ∀ {names : List (Str × NameKind)} {x : Str} {k : NameKind},
    (names.map fun (n, k) => if (k == NameKind.free && sc.kind == .function && sc.names.lookup n == some .cell) then (n, NameKind.cell) else (n, k)).lookup x = some k →
    ∃ k', names.lookup x = some k' ∧ (k = k' ∨ (k' = .free ∧ k = .cell))
  | [], _, _, h => by simp at h
  | (n, k₀) :: r, x, k, h => by
    have ih := @lookup_relS sc r x k
    have h' : List.lookup x ((if (k₀ == NameKind.free && sc.kind == .function && sc.names.lookup n == some .cell) = true then (n, NameKind.cell) else (n, k₀)) :: (r.map _)) = some k := h
    cases hx : x == n with
    | true =>
      simp only [List.lookup_cons, hx]
      by_cases hc : (k₀ == NameKind.free && sc.kind == .function && sc.names.lookup n == some .cell) = true
      · rw [if_pos hc] at h'
        simp only [List.lookup_cons, hx] at h'
        cases h'
        simp only [Bool.and_eq_true, beq_iff_eq] at hc
        exact ⟨k₀, rfl, .inr ⟨hc.1.1, rfl⟩⟩
      · rw [if_neg hc] at h'
        simp only [List.lookup_cons, hx] at h'
        cases h'
        exact ⟨_, rfl, .inl rfl⟩
    | false =>
      simp only [List.lookup_cons, hx]
      by_cases hc : (k₀ == NameKind.free && sc.kind == .function && sc.names.lookup n == some .cell) = true
      · rw [if_pos hc] at h'
        simp only [List.lookup_cons, hx] at h'
        exact ih h'
      · rw [if_neg hc] at h'
        simp only [List.lookup_cons, hx] at h'
        exact ih h'
/-- the names of a comprehension's block: its own (with their places in N), or captured -/
structure BlkOk (N : List Str) (sc scope : Scope) (own : List (Str × Nat)) : Prop where
  kind : scope.kind = .function
  uniq : ∀ y ∈ scope.names, scope.names.lookup y.1 = some y.2
  ix : ∀ p ∈ own, N[p.2]? = some p.1
  free : ∀ y ∈ scope.names, y.2 = .free → sc.names.lookup y.1 = some .cell ∨ sc.names.lookup y.1 = some .free
  own : ∀ y ∈ scope.names, y.2 = .local ∨ y.2 = .cell → y.1 ∈ own.map (·.1) ∨ y.1 ∉ N
/-- the slots of the block's own names forgotten -/
def wipe (σ : St) : List Nat → St
  | [] => σ
  | v :: vs => (wipe σ vs).set v none
theorem wipe_length (σ : St) : ∀ vs : List Nat, (wipe σ vs).length = σ.length
  | [] => rfl
  | v :: vs => by unfold wipe; rw [List.length_set, wipe_length σ vs]
theorem wipe_some {σ : St} {i : Nat} {x : V} : ∀ {vs : List Nat}, (wipe σ vs)[i]? = some (some x) → σ[i]? = some (some x) ∧ i ∉ vs
  | [], h => ⟨h, by simp⟩
  | v :: vs, h => by
    unfold wipe at h
    by_cases hi : v = i
    · subst hi
      by_cases hv : v < (wipe σ vs).length
      · rw [List.getElem?_set_self hv] at h; cases h
      · rw [List.getElem?_eq_none (by simpa using hv)] at h; cases h
    · rw [List.getElem?_set_ne hi] at h
      obtain ⟨h1, h2⟩ := wipe_some h
      exact ⟨h1, by simp only [List.mem_cons, not_or]; exact ⟨fun e => hi e.symm, h2⟩⟩
/-- the context of a block that starts at s, its iterator's objects at fp -/
abbrev Cx.blk (X : Cx) (s : Shared) (H : Hp) (scope : Scope) (cenv : Env) (fp : List Addr) : Cx := { X with s_0 := s, H_0 := H, env := cenv, outer := X.stack, ex := fp, fn := fun x => scope.names.lookup x == some .cell, pn := [], xe := fun _ _ => False }
section
variable {X : Cx} {pins : List (Addr × Obj)} {σ : St} {H : Hp} {s : Shared}
theorem block_start {scope : Scope} {own : List (Str × Nat)} {fp : List Addr} (I : Inv X pins σ H s) (ok : BlkOk X.N X.env.scope scope own) (hN : X.N.Nodup) (hfp : ∀ b ∈ fp, FpOk X pins H b ∧ b < s.heap.objs.size) :
    Inv (X.blk s H scope (compEnvC scope (cellsFrom (s.heap.objs.size + 1) scope.names (cloFrom X.env.cells scope.names [])) s.heap.objs.size X.env) fp) [] (wipe σ (own.map (·.2))) H { s with heap := pushCells (s.heap.push { cls := .type "dict", data := .dict #[] }) scope.names } := by
  have hfree : ∀ y ∈ scope.names, y.2 = .free → ∃ c, X.env.cells.lookup y.1 = some c := fun y hy e => by
    rcases ok.free y hy e with k | k
    · exact I.ok.has _ (.inl k)
    · exact I.ok.has _ (.inr k)
  generalize hcenv : compEnvC scope (cellsFrom (s.heap.objs.size + 1) scope.names (cloFrom X.env.cells scope.names [])) s.heap.objs.size X.env = cenv
  have kp : ∀ b o, s.heap.get? b = some o → (pushCells (s.heap.push { cls := .type "dict", data := .dict #[] }) scope.names).get? b = some o := fun b o e => pushCells_keeps _ _ _ _ (Heap.get?_push_of_some _ e)
  have hL : cenv.locals = s.heap.objs.size := by rw [← hcenv]; rfl
  have hcl : cenv.cells = cellsFrom (s.heap.objs.size + 1) scope.names (cloFrom X.env.cells scope.names []) := by rw [← hcenv]; rfl
  have hsc : cenv.scope = relS scope X.env.scope := by rw [← hcenv]; rfl
  rw [← Heap.size_push s.heap { cls := .type "dict", data := .dict #[] }] at hcl
  have cm : ∀ {y c}, (y, c) ∈ cloFrom X.env.cells scope.names [] → X.env.cells.lookup y = some c ∧ c < s.heap.objs.size := fun {y c} hm => by
    rcases cloFrom_mem hm with hm | ⟨h1, rfl⟩
    · cases hm
    · obtain ⟨c, hc⟩ := hfree _ h1 rfl
      rw [hc]
      obtain ⟨w, z⟩ := I.cell _ _ hc
      exact ⟨rfl, z.lt⟩
  have mem : ∀ {y c}, cenv.cells.lookup y = some c → (X.env.cells.lookup y = some c ∧ c < s.heap.objs.size) ∨ (s.heap.objs.size + 1 ≤ c ∧ CellAt (pushCells (s.heap.push { cls := .type "dict", data := .dict #[] }) scope.names) c none) := fun {y c} e => by
    rw [hcl] at e
    rcases cells_mem (PySem.mem_of_lookup e) with hm | ⟨_, h2, h3⟩
    · exact .inl (cm hm)
    · rw [Heap.size_push] at h2; exact .inr ⟨h2, h3⟩
  have look : ∀ {y}, scope.names.lookup y = some .free → ∃ c, cenv.cells.lookup y = some c ∧ X.env.cells.lookup y = some c := fun {y} hl => by
    have hy : (y, NameKind.free) ∈ scope.names := PySem.mem_of_lookup hl
    obtain ⟨c', e'⟩ := mem_lookup (cells_acc (names := scope.names) (n := (s.heap.push { cls := .type "dict", data := .dict #[] }).objs.size) (cloFrom_has (cells := X.env.cells) (acc := []) hy))
    rw [← hcl] at e'
    refine ⟨c', e', ?_⟩
    rw [hcl] at e'
    rcases cells_mem (PySem.mem_of_lookup e') with hm | ⟨h1, _, _⟩
    · exact (cm hm).1
    · have := ok.uniq _ h1
      rw [hl] at this; cases this
  have okB : (X.blk s H scope cenv fp).Ok := by
    refine ⟨I.ok.mod, by show cenv.scope.kind = _; rw [hsc]; exact ok.kind, by show cenv.globals = _; rw [← hcenv]; exact I.ok.glob, by show cenv.builtins = _; rw [← hcenv]; exact I.ok.blt, by show s.heap.objs.size ≤ cenv.locals; rw [hL]; exact Nat.le_refl _,
      fun y z c e1 e2 => ?_, fun y hy => ?_, fun y c z e => ?_, I.ok.hd, I.ok.frames, .inl rfl, fun b hb => ⟨?_, fun y c e z => ?_⟩, I.bs, Nat.le_trans I.ok.bsz I.sz, fun b o e hb => ?_, fun b hb z => ?_, I.stack, I.stkFree⟩
    · have e1 : cenv.cells.lookup y = some c := e1
      have e2 : cenv.cells.lookup z = some c := e2
      rw [hcl] at e1 e2
      refine cells_inj (fun p hp => ?_) (fun y z c a b => I.ok.inj y z c (cm a).1 (cm b).1) (PySem.mem_of_lookup e1) (PySem.mem_of_lookup e2)
      rw [Heap.size_push]
      exact Nat.lt_succ_of_lt (cm (y := p.1) (c := p.2) hp).2
    · show ∃ c, cenv.cells.lookup y = some c
      have key : ∀ k, cenv.kindOf y = some k → (k = .cell ∨ k = .free) → ∃ c, cenv.cells.lookup y = some c := fun k hk hk' => by
        unfold Env.kindOf at hk
        rw [hsc] at hk
        obtain ⟨k', e, r⟩ := lookup_relS hk
        have : k' = .cell ∨ k' = .free := by
          rcases r with rfl | ⟨rfl, _⟩
          · exact hk'
          · exact .inr rfl
        rcases this with rfl | rfl
        · obtain ⟨c, hm⟩ := cells_has (n := (s.heap.push { cls := .type "dict", data := .dict #[] }).objs.size) (acc := cloFrom X.env.cells scope.names []) (PySem.mem_of_lookup e)
          obtain ⟨c', e'⟩ := mem_lookup hm
          exact ⟨c', by rw [hcl]; exact e'⟩
        · obtain ⟨c, h1, _⟩ := look e
          exact ⟨c, h1⟩
      rcases hy with hy | hy
      · exact key _ hy (.inl rfl)
      · exact key _ hy (.inr rfl)
    · have z : (scope.names.lookup y == some NameKind.cell) = true := z
      have z : scope.names.lookup y = some .cell := by simpa using z
      have e : cenv.cells.lookup y = some c := e
      rw [hcl] at e
      rcases cells_mem (PySem.mem_of_lookup e) with hm | ⟨_, h2, _⟩
      · rcases cloFrom_mem hm with hm | ⟨h1, _⟩
        · cases hm
        · have q := ok.uniq _ h1
          rw [z] at q; cases q
      · rw [Heap.size_push] at h2
        exact Nat.le_of_succ_le h2
    · show b ≠ cenv.locals
      rw [hL]; exact Nat.ne_of_lt (hfp b hb).2
    · have e : cenv.cells.lookup y = some c := e
      rcases mem e with ⟨h1, _⟩ | ⟨h1, _⟩
      · exact (hfp b hb).1.2.2.2.2.1 y c h1 z
      · have h2 : s.heap.objs.size + 1 ≤ b := by rw [← z]; exact h1
        exact absurd (Nat.lt_of_lt_of_le (hfp b hb).2 (Nat.le_of_succ_le h2)) (Nat.lt_irrefl _)
    · rcases (hfp b hb).1.2.2.2.1 with z | z
      · exact I.ok.noex b o e z
      · exact absurd (Nat.lt_of_lt_of_le (Heap.lt_size e) (Nat.le_trans I.ok.bsz z)) (Nat.lt_irrefl _)
    · rcases List.mem_cons.mp (I.stkSub b z) with z | z
      · exact (hfp b hb).1.2.1 z
      · exact (hfp b hb).1.2.2.1 z
  refine ⟨okB, rfl, I.bare, Un.kept kp, ⟨fun _ => none, ?_, fun i y av e1 e2 e3 => ?_⟩, fun y c e => ?_, ?_, fun y c e => ?_, fun p hp => ?_, I.hok.kept kp, by rw [wipe_length]; exact I.len⟩
  · show Heap.Ns _ cenv.locals _
    rw [hL]
    exact Heap.Ns.keeps (Heap.Ns.new ..) fun b o e => pushCells_keeps _ _ _ _ e
  · obtain ⟨e2, hne⟩ := wipe_some e2
    have hfr : scope.names.lookup y = some .free ∧ (cenv.kindOf y = some .cell ∨ cenv.kindOf y = some .free) := by
      have key : ∀ k, cenv.scope.names.lookup y = some k → k = .local ∨ k = .cell ∨ k = .free → scope.names.lookup y = some .free ∧ (cenv.kindOf y = some .cell ∨ cenv.kindOf y = some .free) := fun k hk hk' => by
        have hk0 := hk
        rw [hsc] at hk
        obtain ⟨k', e, r⟩ := lookup_relS hk
        have no : ¬ (k' = .local ∨ k' = .cell) := fun hh => by
          rcases ok.own _ (PySem.mem_of_lookup e) hh with e' | e'
          · obtain ⟨p, hp, hpy⟩ := List.mem_map.mp e'
            have e3 := ok.ix p hp
            have : p.1 = y := hpy
            rw [this] at e3
            exact hne (List.mem_map.mpr ⟨p, hp, nodup_ix hN e3 e1⟩)
          · exact e' (List.mem_of_getElem? e1)
        rcases r with rfl | ⟨rfl, rfl⟩
        · rcases hk' with rfl | rfl | rfl
          · exact absurd (.inl rfl) no
          · exact absurd (.inr rfl) no
          · exact ⟨e, .inr hk0⟩
        · exact ⟨e, .inl hk0⟩
      have e3 : Vis cenv.scope y := e3
      rcases e3 with e3 | e3 | e3
      · exact key _ e3 (.inl rfl)
      · exact key _ e3 (.inr (.inl rfl))
      · exact key _ e3 (.inr (.inr rfl))
    obtain ⟨m, hn, hl⟩ := I.loc
    have hvis : Vis X.env.scope y := (ok.free _ (PySem.mem_of_lookup hfr.1) rfl).elim (fun k => .inr (.inl k)) (fun k => .inr (.inr k))
    obtain ⟨w, r, q⟩ := hl i y av e1 e2 hvis
    refine ⟨w, r, .inr ⟨hfr.2, ?_⟩⟩
    obtain ⟨c, h1, h2⟩ := look hfr.1
    rcases q with ⟨k, _⟩ | ⟨_, c', e', z⟩
    · have k : X.env.scope.names.lookup y = some .local := k
      rcases ok.free _ (PySem.mem_of_lookup hfr.1) rfl with k' | k' <;> rw [show X.env.scope.names.lookup y = _ from k'] at k <;> cases k
    · rw [h2] at e'; cases e'
      exact ⟨c, h1, z.keeps kp⟩
  · have e : cenv.cells.lookup y = some c := e
    rcases mem e with ⟨h1, _⟩ | ⟨_, z⟩
    · obtain ⟨w, z⟩ := I.cell y c h1
      exact ⟨w, z.keeps kp⟩
    · exact ⟨_, z⟩
  · show H cenv.locals = none
    rw [hL]; exact I.hok.fresh (Nat.le_refl _)
  · have e : cenv.cells.lookup y = some c := e
    rcases mem e with ⟨h1, _⟩ | ⟨h1, _⟩
    · exact I.freeC y c h1
    · exact I.hok.fresh (Nat.le_of_succ_le h1)
  · exact absurd (show p ∈ ([] : List (Addr × Obj)) ++ [] from hp) (by simp)
/-- an item appended to a tracked list -/
theorem app_ok {E : Value → Shared → Prop} {D : Addr} {xs : List V} {y : V} {v : Value} {Q : Value → Shared → Prop} (I : Inv X pins σ H s) (hD : H D = some (.lst xs)) (hz : xs.length < sizeLine) (r : RelV y v)
    (h : ∀ s', Inv X pins σ (upd H D (.lst (xs ++ [y]))) s' → Q .none s') : wpAny (model X.prog X.w) X.A (call (.builtin "list.append") [.ref D, v]) Q E s := by
  obtain ⟨hz', its, n, ri, e⟩ := I.hok D _ hD
  have hl := ri.length
  refine append_at (hsz := by rw [List.size_toArray]; omega) e fun h' sb ho' => ?_
  refine h { s with heap := h' } (I.write (t' := s.toks) (by rw [hD]; trivial) (.inl rfl) (fun b u hb q => (sb.2 b hb).trans q) ⟨_, ho'⟩ ⟨by rw [List.length_append]; exact hz, its ++ [v], n + 1, ri.append (.cons r .nil), ?_⟩)
  rw [ho']
  simp
/-- a clause's tests -/
def PTs (X : Cx) (ifs : List Expr) (t : TT) : Prop :=
  ∀ (pins : List (Addr × Obj)) (s : Shared) (σ : St) (H : Hp) (Q : Bool → Hp → Prop), Inv X pins σ H s → t σ H Q →
    wpAny (model X.prog X.w) X.A (forIn ifs true fun c r => if r = true then do let ok ← isTrue c X.env (eval c X.env); pure (ForInStep.yield ok) else pure (ForInStep.yield r)) (TP X pins σ Q) X.xe s
def tYes : TT := fun _ H Q => Q true H
theorem pts_nil : PTs X [] tYes := fun _ _ _ H _ I h => wpAny_tests_nil ⟨H, I, h⟩
end
theorem thnF {α : Type} {t : Sem α} {Q Q' : α → Shared → Prop} {M : Model} {A : Around} {E : Value → Shared → Prop} {s : Shared} (h : wpAny M A t Q (fun _ _ => False) s) (hQ : ∀ a s, Q a s → Q' a s) : wpAny M A t Q' E s := wpAny_mono h hQ fun _ _ z => False.elim z
/-- the loop of a list comprehension's block, the target of any form (codeAny_compLoop_tests asks a target that no tuple goes to; statement and proof follow it, PyProof/CompMap.lean:41-61, with the step letOwnedTupleGo kept) -/
theorem compLoop_any {prog : Program} {w : World} {A : Around} {R : Result → Shared → Prop} {s : Shared} {elt target iter : Expr} {ifs : List Expr} {scope : Scope} {pos : Pos} {it acc : Value} {env : Env} (I : Nat → Shared → Prop)
    (turn : ∀ n s, I n s → wpAny (model prog w) A (pyNext it) (fun r s₁ => match r with
      | none => R (.ok .next) s₁
      | some v => wpAny (model prog w) A (letOwnedTupleGo target it v) (fun _ s₁' => wpAny (model prog w) A (assign target env v) (fun _ s₂ =>
          wpAny (model prog w) A (forIn ifs true fun c r => if r = true then do let ok ← isTrue c env (eval c env); pure (ForInStep.yield ok) else pure (ForInStep.yield r)) (fun ok s₃ =>
            if ok = true then wpAny (model prog w) A (eval elt env) (fun x s₄ =>
              wpAny (model prog w) A (call (.builtin "list.append") [acc, x]) (fun _ s₅ => ∃ m, m < n ∧ I m s₅) (notedBy (model prog w) A env fun e s' => R (.error e) s') s₄) (notedBy (model prog w) A env fun e s' => R (.error e) s') s₃
            else ∃ m, m < n ∧ I m s₃) (notedBy (model prog w) A env fun e s' => R (.error e) s') s₂) (notedBy (model prog w) A env fun e s' => R (.error e) s') s₁') (notedBy (model prog w) A env fun e s' => R (.error e) s') s₁) (notedBy (model prog w) A env fun e s' => R (.error e) s') s)
    (n : Nat) (h : I n s) :
    codeAny (model prog w) A (.compLoop (.ListComp elt [⟨target, iter, ifs, 0⟩] scope pos) 0 it acc env) R s := by
  refine codeAny_loop rfl I (fun n s hI => ?_) n h
  show wpAny _ A ((compTurn (.ListComp elt [⟨target, iter, ifs, 0⟩] scope pos) 0 it acc env).onRaise (fun x => do noteFrame x env; theTreesLotGoes x)) _ _ s
  refine wpAny_noted ?_
  rw [compTurn_list]
  refine wpAny_bind (wpAny_standAt (wpAny_bind (wpAny_mono (turn n s hI) (fun r s₁ h₁ => ?_) fun _ _ h' => h')))
  cases r with
  | none => exact wpAny_pure h₁
  | some v =>
    refine wpAny_bind (wpAny_mono h₁ (fun _ s₁' h₁' => ?_) fun _ _ h' => h')
    refine wpAny_bind (wpAny_mono h₁' (fun _ s₂ h₂ => wpAny_bind (wpAny_mono h₂ (fun ok s₃ h₃ => ?_) fun _ _ h' => h')) fun _ _ h' => h')
    cases ok with
    | false => exact wpAny_pure ⟨rfl, h₃⟩
    | true =>
      exact wpAny_bind (wpAny_bind (wpAny_mono h₃ (fun x s₄ h₄ => wpAny_bind (wpAny_mono h₄ (fun _ s₅ h₅ => wpAny_pure (wpAny_pure ⟨rfl, h₅⟩)) fun _ _ h' => h')) fun _ _ h' => h'))
section
variable {X : Cx}
/-- [elt for target in iter if ..]: D the new list; W by the turn and a measure, Nx what a turn is to reach -/
def tLc (wi : TI) (g : TG) (tt : TT) (te : TE) (vs : List Nat) : TE := fun σ H Q => wi σ H fun J H1 => ∀ D, H1 D = none → ∃ W : Nat → Nat → Hp → Prop, (∃ m, W 0 m (upd H1 D (.lst []))) ∧ ∀ i m H, W i m H →
  (J.stop i H ∧ Q (.ref D) H) ∨ (J.go i H ∧ ∃ Nx : Hp → Prop, (∀ H', Nx H' → ∃ m', m' < m ∧ W (i + 1) m' H') ∧ ∀ x H', J.yld i H x H' → g x (wipe σ vs) H' fun σ2 H2 => wipe σ2 vs = wipe σ vs ∧ tt σ2 H2 fun b H3 =>
    if b = true then te σ2 H3 fun y H4 => ∃ acc, H4 D = some (.lst acc) ∧ acc.length < sizeLine ∧ Nx (upd H4 D (.lst (acc ++ [y]))) else Nx H3)
theorem lc_core {pins : List (Addr × Obj)} {s : Shared} {σ : St} {H : Hp} {Q : VK} {elt tg iter : Expr} {ifs : List Expr} {scope : Scope} {own : List (Str × Nat)} {pos pos' : Pos} {wi : TI} {g : TG} {tt : TT} {te : TE} {use : Option (Value → Sem Unit)} {Qf : Value → Shared → Prop}
    (hc : X.calm = true) (hN : X.N.Nodup) (I : Inv X pins σ H s) (hi : PI X tg iter wi) (ok : BlkOk X.N X.env.scope scope own)
    (hg : ∀ (s : Shared) (H : Hp) (C : Addr) (cl : List (Str × Addr)) (fp : List Addr), PG (X.blk s H scope (compEnvC scope cl C X.env) fp) tg g) (ht : ∀ (s : Shared) (H : Hp) (C : Addr) (cl : List (Str × Addr)) (fp : List Addr), PTs (X.blk s H scope (compEnvC scope cl C X.env) fp) ifs tt)
    (he : ∀ (s : Shared) (H : Hp) (C : Addr) (cl : List (Str × Addr)) (fp : List Addr), PE (X.blk s H scope (compEnvC scope cl C X.env) fp) elt te) (hs : ∀ x, foldedSetIterable iter X.env x = pure x)
    (h : tLc wi g tt te (own.map (·.2)) σ H Q)
    (hRR : ∀ D C s' m H', Inv X pins σ H' s' → Q (.ref D) H' → s'.heap.Ns C m → FpOk X pins H' C → compPost (model X.prog X.w) X.A X.xe use Qf (.ref D) C (.ok .next) s') :
    wpAny (model X.prog X.w) X.A (comprehension (.ListComp elt [⟨tg, iter, ifs, 0⟩] scope pos) scope X.env pos' (newList []) false (eval iter X.env) use) Qf X.xe s := by
  have hfree : ∀ y ∈ scope.names, y.2 = .free → ∃ c, X.env.cells.lookup y.1 = some c := fun y hy e => by
    rcases ok.free y hy e with k | k
    · exact I.ok.has _ (.inl k)
    · exact I.ok.has _ (.inr k)
  refine wpAny_comprehension_free (use := use) rfl hs (closure_ok hfree) ok.kind (fun y hy e => by rw [ok.uniq y hy, e])
    (thn (hi pins s σ H _ I h) fun xv s1 hx => thn hx fun itv s2 h2 => ?_)
  obtain ⟨it, fp, tn, J, H2, e, I2, T, st2, f2, q⟩ := h2
  subst e
  refine wpAny_newObj_type (newEnv_comp ?_) (by show 0 ≤ sizeLine; decide)
  generalize hD : s2.heap.objs.size = D
  have hDn : H2 D = none := I2.hok.fresh (Nat.le_of_eq hD)
  obtain ⟨W, ⟨m0, w0⟩, turn⟩ := q D hDn
  -- the new list
  generalize hs3 : ({ s2 with heap := s2.heap.push { cls := .type "list", data := .seq ([] : List Value).toArray } } : Shared) = s3
  have I3 : Inv X pins σ (upd H2 D (.lst [])) s3 := by
    rw [← hs3]
    refine I2.laid (t' := s2.toks) (fun b o e => Heap.get?_push_of_some _ e) (Nat.le_of_eq hD) ⟨Nat.zero_le _, [], 0, .nil, ?_⟩
    rw [← hD]
    exact Heap.get?_push_size _ rfl
  have h3 : s3.heap = s2.heap.push { cls := .type "list", data := .seq ([] : List Value).toArray } := by rw [← hs3]
  have sz : ∀ b ∈ fp, b < s2.heap.objs.size := fun b hb => by
    obtain ⟨o, e, _⟩ := T.obj _ _ st2 b hb
    exact Heap.lt_size e
  have f3 : ∀ b ∈ fp, FpOk X pins (upd H2 D (.lst [])) b ∧ b < s3.heap.objs.size := fun b hb => by
    have hlt := sz b hb
    refine ⟨⟨?_, (f2 b hb).2⟩, by rw [h3, Heap.size_push]; exact Nat.lt_succ_of_lt hlt⟩
    rw [upd_ne (by rw [← hD]; exact Nat.ne_of_lt hlt)]
    exact (f2 b hb).1
  have st3 : tn 0 s3.heap := T.keep _ _ _ st2 fun b _ o e => by rw [h3]; exact Heap.get?_push_of_some _ e
  have I4 := block_start I3 ok hN f3
  have pg := hg s3 (upd H2 D (.lst [])) s3.heap.objs.size (cellsFrom (s3.heap.objs.size + 1) scope.names (cloFrom X.env.cells scope.names [])) fp
  have pt := ht s3 (upd H2 D (.lst [])) s3.heap.objs.size (cellsFrom (s3.heap.objs.size + 1) scope.names (cloFrom X.env.cells scope.names [])) fp
  have pe := he s3 (upd H2 D (.lst [])) s3.heap.objs.size (cellsFrom (s3.heap.objs.size + 1) scope.names (cloFrom X.env.cells scope.names [])) fp
  show codeAny _ _ (.compStart (.ListComp elt [⟨tg, iter, ifs, 0⟩] scope pos) 0 (.ref it) (.ref D) (compEnvC scope (cellsFrom (s3.heap.objs.size + 1) scope.names (cloFrom X.env.cells scope.names [])) s3.heap.objs.size X.env)) (compPost (model X.prog X.w) X.A X.xe use Qf (.ref D) s3.heap.objs.size) { s3 with heap := pushCells (s3.heap.push { cls := .type "dict", data := .dict #[] }) scope.names }
  have nfp : ∀ b ∈ fp, (upd H2 D (.lst [])) b = none := fun b hb => (f3 b hb).1.1
  generalize hce : compEnvC scope (cellsFrom (s3.heap.objs.size + 1) scope.names (cloFrom X.env.cells scope.names [])) s3.heap.objs.size X.env = ce at I4 pg pt pe ⊢
  have cL : ce.locals = s3.heap.objs.size := by subst hce; rfl
  generalize hH3 : upd H2 D (.lst []) = H3 at I3 I4 pg pt pe w0 nfp f3
  generalize hs4 : ({ s3 with heap := pushCells (s3.heap.push { cls := .type "dict", data := .dict #[] }) scope.names } : Shared) = s4 at I4 ⊢
  have st4 : tn 0 s4.heap := T.keep _ _ _ st3 fun b _ o e => by rw [← hs4]; exact pushCells_keeps _ _ _ _ (Heap.get?_push_of_some _ e)
  have stat : ∀ {σ' : St} {H' : Hp} {s' : Shared}, Inv (X.blk s3 H3 scope ce fp) [] σ' H' s' → (∀ b ∈ fp, H' b = none) → ∀ b ∈ fp, FpOk (X.blk s3 H3 scope ce fp) [] H' b := fun {σ' H' s'} I' hn b hb =>
    ⟨hn b hb, (I'.ok.exf b hb).1, I'.ok.exfs b hb, .inl hb, fun x c e => (I'.ok.exf b hb).2 x c e, fun p hp => absurd (show p ∈ ([] : List (Addr × Obj)) ++ [] from hp) (by simp)⟩
  have loop : codeAny (model X.prog X.w) X.A (.compLoop (.ListComp elt [⟨tg, iter, ifs, 0⟩] scope pos) 0 (.ref it) (.ref D) ce) (compPost (model X.prog X.w) X.A X.xe use Qf (.ref D) s3.heap.objs.size) s4 := by
    refine compLoop_any (fun n s' => ∃ i H', Inv (X.blk s3 H3 scope ce fp) [] (wipe σ (own.map (·.2))) H' s' ∧ tn i s'.heap ∧ (∀ b ∈ fp, H' b = none) ∧ W i n H') ?_ m0 ⟨0, H3, I4, st4, nfp, w0⟩
    rintro n s5 ⟨i, H5, I5, st5, n5, w5⟩
    rcases turn i n H5 w5 with ⟨stop, qq⟩ | ⟨go, Nx, hNx, step⟩
    · have td := T.done (X.blk s3 H3 scope ce fp) rfl rfl rfl hc i [] s5 _ H5 (fun _ _ => False) I5 (stat I5 n5) st5 stop
      refine thnF td fun r s6 ⟨hr, I6⟩ => ?_
      subst hr
      -- back in the def's context
      have I7 : Inv X pins σ H5 s6 := I3.call' (ch := fp) I6.os I6.base I6.hok I6.bare fun b hb => ⟨(f3 b hb).1.2.2.2.1, (f3 b hb).1.2.1, (f3 b hb).1.2.2.2.2.1, (f3 b hb).1.2.2.2.2.2⟩
      have nC : H5 s3.heap.objs.size = none := by
        have z : H5 ce.locals = none := I6.free
        rw [cL] at z
        exact z
      obtain ⟨m, hn, _⟩ := I6.loc
      have hn : s6.heap.Ns ce.locals m := hn
      rw [cL] at hn
      exact hRR D s3.heap.objs.size s6 m H5 I7 qq hn (I3.fpOk (Nat.le_refl _) nC)
    · have ti := T.item (X.blk s3 H3 scope ce fp) rfl rfl rfl hc i [] s5 _ H5 (fun _ _ => False) I5 (stat I5 n5) st5 go
      refine thnF ti fun r s6 ⟨u, hr, h6⟩ => ?_
      subst hr
      refine thnF h6 fun _ s7 ⟨x, H7, I7, r7, y7, st7, n7⟩ => ?_
      have I7' := I7.pinned (stat I7 n7) (T.obj _ _ st7)
      refine thnF (pg _ s7 _ H7 x u _ I7' r7 (step x H7 y7)) fun _ s8 ⟨σ8, H8, I8, hw8, q8⟩ => ?_
      refine thnF (pt _ s8 σ8 H8 _ I8 q8) fun b s9 ⟨H9, I9, q9⟩ => ?_
      -- the turn's end
      have fin : ∀ {s' : Shared} {H' : Hp}, Inv (X.blk s3 H3 scope ce fp) ([] ++ pinsAt fp s7.heap) σ8 H' s' → Nx H' → ∃ m, m < n ∧ ∃ i H', Inv (X.blk s3 H3 scope ce fp) [] (wipe σ (own.map (·.2))) H' s' ∧ tn i s'.heap ∧ (∀ b ∈ fp, H' b = none) ∧ W i m H' := fun {s' H'} I' nx => by
        obtain ⟨m', hm, w'⟩ := hNx H' nx
        have pin' : ∀ b ∈ fp, ∀ o, s7.heap.get? b = some o → s'.heap.get? b = some o ∧ H' b = none := fun b hb o e =>
          let z := I'.pin (b, o) (List.mem_append_right _ (List.mem_append_right _ (mem_pinsAt hb e)))
          ⟨z.1, z.2.1⟩
        have hl : (wipe σ (own.map (·.2))).length = σ8.length := by rw [← hw8, wipe_length]
        refine ⟨m', hm, i + 1, H', (I'.unpinned (pins := [])).weak hl (fun j v e => ?_), T.keep _ _ _ st7 fun b hb o e => (pin' b hb o e).1, fun b hb => ?_, w'⟩
        · rw [← hw8] at e
          exact (wipe_some e).1
        · obtain ⟨o, e, _⟩ := T.obj _ _ st7 b hb
          exact (pin' b hb o e).2
      cases b with
      | false =>
        simp only [Bool.false_eq_true, if_false] at q9 ⊢
        exact fin I9 q9
      | true =>
        simp only [if_true] at q9 ⊢
        refine thnF (pe _ s9 σ8 H9 _ I9 q9) fun z s10 ⟨yv, H10, I10, r10, acc, hD10, hz10, nx⟩ => ?_
        exact app_ok (X := X.blk s3 H3 scope ce fp) I10 hD10 hz10 r10 fun s11 I11 => fin I11 nx
  exact codeAny_compStart_list loop (T.self X.A 0 _ _ _ st4 loop)
/-- as a value -/
theorem pe_lc {elt tg iter : Expr} {ifs : List Expr} {scope : Scope} {own : List (Str × Nat)} {pos : Pos} {wi : TI} {g : TG} {tt : TT} {te : TE} (hc : X.calm = true) (hN : X.N.Nodup) (hi : PI X tg iter wi) (ok : BlkOk X.N X.env.scope scope own)
    (hg : ∀ (s : Shared) (H : Hp) (C : Addr) (cl : List (Str × Addr)) (fp : List Addr), PG (X.blk s H scope (compEnvC scope cl C X.env) fp) tg g) (ht : ∀ (s : Shared) (H : Hp) (C : Addr) (cl : List (Str × Addr)) (fp : List Addr), PTs (X.blk s H scope (compEnvC scope cl C X.env) fp) ifs tt)
    (he : ∀ (s : Shared) (H : Hp) (C : Addr) (cl : List (Str × Addr)) (fp : List Addr), PE (X.blk s H scope (compEnvC scope cl C X.env) fp) elt te) (hs : ∀ x, foldedSetIterable iter X.env x = pure x := by intro _; rfl) :
    PE X (.ListComp elt [⟨tg, iter, ifs, 0⟩] scope pos) (tLc wi g tt te (own.map (·.2))) := by
  intro pins s σ H Q I h
  rw [eval_ListComp]
  refine lc_core hc hN I hi ok hg ht he hs h fun D C s' m H' I' q hn f => ⟨m, hn, fun h'' sb => ?_⟩
  obtain ⟨f0, f1, f2, f3, f4, f5⟩ := f
  exact ⟨.ref D, H', I'.turned (t' := s'.toks) (fun b o hb e => (sb.2 b hb).trans e) f0 f1 f3 f4 f5, rfl, q⟩
end
/-- over a list that the block leaves as it is -/
theorem lc_list {K : PySem.W.Frag} {a : Addr} {xs : List V} {g : TG} {tt : TT} {te : TE} {vs : List Nat} {σ : St} {H1 : Hp} {D : Addr} {Qd : Hp → Prop} (Pv : Nat → Hp → Prop) (h0 : Pv 0 (upd H1 D (.lst []))) (hl : ∀ i H, i ≤ xs.length → Pv i H → SqL K H a xs)
    (hs : ∀ i x H, xs[i]? = some x → Pv i H → g x (wipe σ vs) H fun σ2 H2 => wipe σ2 vs = wipe σ vs ∧ tt σ2 H2 fun b H3 =>
      if b = true then te σ2 H3 fun y H4 => ∃ acc, H4 D = some (.lst acc) ∧ acc.length < sizeLine ∧ Pv (i + 1) (upd H4 D (.lst (acc ++ [y]))) else Pv (i + 1) H3) (hd : ∀ H, Pv xs.length H → Qd H) :
    ∃ W : Nat → Nat → Hp → Prop, (∃ m, W 0 m (upd H1 D (.lst []))) ∧ ∀ i m H, W i m H →
      ((Itl K a).stop i H ∧ Qd H) ∨ ((Itl K a).go i H ∧ ∃ Nx : Hp → Prop, (∀ H', Nx H' → ∃ m', m' < m ∧ W (i + 1) m' H') ∧ ∀ x H', (Itl K a).yld i H x H' → g x (wipe σ vs) H' fun σ2 H2 => wipe σ2 vs = wipe σ vs ∧ tt σ2 H2 fun b H3 =>
        if b = true then te σ2 H3 fun y H4 => ∃ acc, H4 D = some (.lst acc) ∧ acc.length < sizeLine ∧ Nx (upd H4 D (.lst (acc ++ [y]))) else Nx H3) := by
  refine ⟨fun i m H => m = xs.length - i ∧ i ≤ xs.length ∧ Pv i H, ⟨xs.length, by simp, Nat.zero_le _, h0⟩, ?_⟩
  rintro i m H ⟨rfl, hi, p⟩
  have q := hl i H hi p
  by_cases hlt : i < xs.length
  · refine .inr ⟨⟨xs, xs[i], q, by simp [hlt]⟩, Pv (i + 1), fun H' p' => ⟨xs.length - (i + 1), by omega, rfl, hlt, p'⟩, fun x H' y => ?_⟩
    obtain ⟨e, y⟩ := y
    subst e
    exact hs i x _ (y xs q) p
  · have e : i = xs.length := by omega
    subst e
    exact .inl ⟨⟨xs, q, Nat.le_refl _⟩, hd H p⟩
def blkC (N : List Str) (sc scope : Scope) (own : List (Str × Nat)) : Bool :=
  (match scope.kind with | .function => true | _ => false) && (scope.names.all fun y => decide (scope.names.lookup y.1 = some y.2)) && (own.all fun p => decide (N[p.2]? = some p.1)) &&
    (scope.names.all fun y => match y.2 with
      | .free => (match sc.names.lookup y.1 with | some .cell => true | some .free => true | _ => false)
      | .local => decide (y.1 ∈ own.map (·.1)) || decide (y.1 ∉ N)
      | .cell => decide (y.1 ∈ own.map (·.1)) || decide (y.1 ∉ N)
      | _ => true)
theorem blkOk_by {N : List Str} {sc scope : Scope} {own : List (Str × Nat)} (h : blkC N sc scope own = true) : BlkOk N sc scope own := by
  unfold blkC at h
  simp only [Bool.and_eq_true, List.all_eq_true, decide_eq_true_eq] at h
  obtain ⟨⟨⟨h1, h2⟩, h3⟩, h4⟩ := h
  refine ⟨?_, h2, h3, fun y hy e => ?_, fun y hy e => ?_⟩
  · split at h1
    · assumption
    · cases h1
  · have q := h4 y hy
    simp only [e] at q
    split at q <;> first | exact .inl (by assumption) | exact .inr (by assumption) | cases q
  · have q := h4 y hy
    rcases e with e | e <;> (simp only [e, Bool.or_eq_true, decide_eq_true_eq] at q; exact q)
end L2
namespace L2
open PySem PySem.Spec PyProof.Rows
section
variable {prog : Program} {w : World} {A : Around} {R : Result → Shared → Prop} {s : Shared} {elt t0 i0 t1 i1 : Expr} {ifs0 ifs1 : List Expr} {scope : Scope} {pos : Pos} {it acc : Value} {env : Env}
end
section
variable {X : Cx}
/-- [elt for tg in iter if .. for tg1 in iter1 if ..]: behind the first clause's store and tests the second source's own loop, from which Nx is reached. vs: the block's names; vs1: those of the second target -/
def tLc2 (wi : TI) (g : TG) (tt : TT) (wi1 : TI) (g1 : TG) (tt1 : TT) (te : TE) (vs vs1 : List Nat) : TE := fun σ H Q => wi σ H fun J H1 => ∀ D, H1 D = none → ∃ W : Nat → Nat → Hp → Prop, (∃ m, W 0 m (upd H1 D (.lst []))) ∧ ∀ i m H, W i m H →
  (J.stop i H ∧ Q (.ref D) H) ∨ (J.go i H ∧ ∃ Nx : Hp → Prop, (∀ H', Nx H' → ∃ m', m' < m ∧ W (i + 1) m' H') ∧ ∀ x H', J.yld i H x H' → g x (wipe σ vs) H' fun σ2 H2 => wipe σ2 vs = wipe σ vs ∧ tt σ2 H2 fun b H3 =>
    if b = true then wi1 σ2 H3 fun J1 H4 => ∃ W1 : Nat → Nat → Hp → Prop, (∃ m, W1 0 m H4) ∧ ∀ j k H, W1 j k H →
      (J1.stop j H ∧ Nx H) ∨ (J1.go j H ∧ ∃ Nx1 : Hp → Prop, (∀ H', Nx1 H' → ∃ k', k' < k ∧ W1 (j + 1) k' H') ∧ ∀ x H', J1.yld j H x H' → g1 x (wipe σ2 vs1) H' fun σ3 H5 => wipe σ3 vs1 = wipe σ2 vs1 ∧ tt1 σ3 H5 fun b H6 =>
        if b = true then te σ3 H6 fun y H7 => ∃ acc, H7 D = some (.lst acc) ∧ acc.length < sizeLine ∧ Nx1 (upd H7 D (.lst (acc ++ [y]))) else Nx1 H6)
    else Nx H3)
end
end L2
namespace L2
open PySem PySem.Spec PyProof.Rows
section
variable {κ : Type} [DecidableEq κ]
def valV (kvs : List (κ × V)) (k : κ) : Option V := (kvs.find? fun kv => decide (kv.1 = k)).map (·.2)
/-- in its place, or at the end -/
def putK (kvs : List (κ × V)) (k : κ) (v : V) : List (κ × V) :=
  if (kvs.any fun kv => decide (kv.1 = k)) = true then kvs.map (fun kv => if kv.1 = k then (kv.1, v) else kv) else kvs ++ [(k, v)]
def dropK (kvs : List (κ × V)) (k : κ) : List (κ × V) := kvs.filter fun kv => decide (kv.1 ≠ k)
theorem valV_pos {p : κ × V} {r : List (κ × V)} {k : κ} (e : p.1 = k) : valV (p :: r) k = some p.2 := by simp [valV, List.find?_cons, e]
theorem valV_neg {p : κ × V} {r : List (κ × V)} {k : κ} (e : ¬ p.1 = k) : valV (p :: r) k = valV r k := by simp [valV, List.find?_cons, e]
theorem RelO.getD {o : Option V} {u : Option Value} {d : V} {d' : Value} (r : RelO o u) (rd : RelV d d') : RelV (o.getD d) (u.getD d') := by
  cases o with
  | none => cases u with
    | none => exact rd
    | some _ => exact (show False from r).elim
  | some _ => cases u with
    | none => exact (show False from r).elim
    | some _ => exact r
/-- raw tables of the same keys -/
theorem KV.val {kvs : List (κ × V)} {vs : List (κ × Value)} (r : KV kvs vs) (k : κ) : RelO (valV kvs k) (valueAt vs k) := by
  unfold KV at r
  induction r with
  | nil => exact True.intro
  | @cons p q ps qs h t ih =>
    obtain ⟨h1, h2⟩ := h
    by_cases e : p.1 = k
    · have e' : q.1 = k := h1.symm.trans e
      have b : valueAt (q :: qs) k = some q.2 := by simp [valueAt, List.find?_cons, e']
      rw [valV_pos e, b]; exact h2
    · have e' : ¬ q.1 = k := fun z => e (h1.trans z)
      have b : valueAt (q :: qs) k = valueAt qs k := by simp [valueAt, List.find?_cons, e']
      rw [valV_neg e, b]; exact ih
theorem KV.any {kvs : List (κ × V)} {vs : List (κ × Value)} (r : KV kvs vs) (k : κ) : (kvs.any fun kv => decide (kv.1 = k)) = vs.any fun kv => decide (kv.1 = k) := by
  unfold KV at r
  induction r with
  | nil => rfl
  | cons h t ih => rw [List.any_cons, List.any_cons, ih, h.1]
theorem KV.drop {kvs : List (κ × V)} {vs : List (κ × Value)} (r : KV kvs vs) (k : κ) : KV (dropK kvs k) (without vs k) := by
  unfold KV at r ⊢
  unfold dropK without
  induction r with
  | nil => exact .nil
  | @cons p q ps qs h t ih =>
    obtain ⟨h1, h2⟩ := h
    rw [List.filter_cons, List.filter_cons]
    by_cases e : p.1 = k
    · have a : ¬ decide (p.1 ≠ k) = true := by simp [e]
      have b : ¬ decide (q.1 ≠ k) = true := by simp [h1.symm.trans e]
      rw [if_neg a, if_neg b]; exact ih
    · have e' : ¬ q.1 = k := fun z => e (h1.trans z)
      have a : decide (p.1 ≠ k) = true := by simp [e]
      have b : decide (q.1 ≠ k) = true := by simp [e']
      rw [if_pos a, if_pos b]; exact .cons ⟨h1, h2⟩ ih
theorem KV.keys {kvs : List (κ × V)} {vs : List (κ × Value)} (r : KV kvs vs) : kvs.map (·.1) = vs.map (·.1) := by
  unfold KV at r
  induction r with
  | nil => rfl
  | cons h t ih => rw [List.map_cons, List.map_cons, ih, h.1]
theorem KV.length {kvs : List (κ × V)} {vs : List (κ × Value)} (r : KV kvs vs) : kvs.length = vs.length := Paired.length r
end
/-- raw entries of a dict with tuple keys -/
abbrev KT (H : Hp) : List (List Key × V) → List (List Key × Addr × Value) → Prop := Paired fun p q => p.1 = q.1 ∧ H q.2.1 = some (.tup (p.1.map kV)) ∧ RelV p.2 q.2.2
theorem KT.val {H : Hp} {kvs : List (List Key × V)} {xs : List (List Key × Addr × Value)} (r : KT H kvs xs) (k : List Key) : RelO (valV kvs k) ((atKey xs k).map (·.2)) := by
  induction r with
  | nil => exact True.intro
  | @cons p q ps qs h t ih =>
    obtain ⟨h1, _, h2⟩ := h
    by_cases e : p.1 = k
    · have e' : q.1 = k := h1.symm.trans e
      have b : atKey (q :: qs) k = some q.2 := by simp [atKey, List.find?_cons, e']
      rw [valV_pos e, b]; exact h2
    · have e' : ¬ q.1 = k := fun z => e (h1.trans z)
      have b : atKey (q :: qs) k = atKey qs k := by simp [atKey, List.find?_cons, e']
      rw [valV_neg e, b]; exact ih
theorem KT.keeps {H H' : Hp} {kvs : List (List Key × V)} {xs : List (List Key × Addr × Value)} (r : KT H kvs xs) (ht : ∀ b ys, H b = some (.tup ys) → H' b = some (.tup ys)) : KT H' kvs xs :=
  Paired.mapP r fun _ _ z => ⟨z.1, ht _ _ z.2.1, z.2.2⟩
section
variable {P : Program} {w : World} {H : Hp} {h : Heap} {a : Addr}
end
/-- what the dict at a holds at the key y -/
def DGet (H : Hp) (a : Addr) (y : V) (r : Option V) : Prop :=
  (∃ kvs k, Rd H a (.dK kvs) ∧ y = kV k ∧ r = valV kvs k) ∨ ∃ kvs k b, Rd H a (.dT kvs) ∧ y = .ref b ∧ H b = some (.tup (k.map kV)) ∧ r = valV kvs k
/-- the heap behind a[y] = v -/
def DPut (H : Hp) (a : Addr) (y v : V) (H' : Hp) : Prop :=
  (∃ kvs k, H a = some (.dK kvs) ∧ y = kV k ∧ kvs.length < sizeLine ∧ H' = upd H a (.dK (putK kvs k v))) ∨
  ∃ kvs k b, H a = some (.dT kvs) ∧ y = .ref b ∧ H b = some (.tup (k.map kV)) ∧ kvs.length < sizeLine ∧ H' = upd H a (.dT (putK kvs k v))
theorem DGet.k {H : Hp} {a : Addr} {kvs : List (Key × V)} {k : Key} (e : H a = some (.dK kvs)) : DGet H a (kV k) (valV kvs k) := .inl ⟨kvs, k, .inl e, rfl, rfl⟩
theorem DGet.t {H : Hp} {a b : Addr} {kvs : List (List Key × V)} {k : List Key} (e : H a = some (.dT kvs)) (eb : H b = some (.tup (k.map kV))) : DGet H a (.ref b) (valV kvs k) := .inr ⟨kvs, k, b, .inl e, rfl, eb, rfl⟩
theorem DPut.k {H : Hp} {a : Addr} {kvs : List (Key × V)} {k : Key} {v : V} (e : H a = some (.dK kvs)) (hl : kvs.length < sizeLine) : DPut H a (kV k) v (upd H a (.dK (putK kvs k v))) := .inl ⟨kvs, k, e, rfl, hl, rfl⟩
theorem DPut.t {H : Hp} {a b : Addr} {kvs : List (List Key × V)} {k : List Key} {v : V} (e : H a = some (.dT kvs)) (eb : H b = some (.tup (k.map kV))) (hl : kvs.length < sizeLine) :
    DPut H a (.ref b) v (upd H a (.dT (putK kvs k v))) := .inr ⟨kvs, k, b, e, rfl, eb, hl, rfl⟩
section
variable {X : Cx} {pins : List (Addr × Obj)} {σ : St} {H : Hp} {s : Shared} {a : Addr} {y v : V} {u r : Value} {o : Option V} {A : Around} {E : Value → Shared → Prop}
theorem Inv.big (I : Inv X pins σ H s) : sysModules < s.heap.objs.size := by
  have h : mainGlobals < s.heap.objs.size := (I.mod.glob.keeps I.bk).lt
  exact Nat.lt_trans (by decide) h
end
section
variable {X : Cx} {pins : List (Addr × Obj)} {σ : St} {H : Hp} {s : Shared} {a : Addr} {kvs : List (Key × V)} {k : Key} {u : Value} {A : Around} {E : Value → Shared → Prop}
end
/-- the element of a subscription, not a slice -/
def NoSl (i : Expr) : Prop := ∀ ov iv, subscripted i false ov iv = operate [ov, iv] (getItem ov iv)
/-- d[y] -/
def tDGet (td ty : TE) : TE := fun σ H Q => td σ H fun x H1 => ty σ H1 fun y H2 => ∃ a v, x = .ref a ∧ DGet H2 a y (some v) ∧ Q v H2
/-- y in d, y not in d -/
def tDIn (ty td : TE) : TE := fun σ H Q => ty σ H fun y H1 => td σ H1 fun x H2 => ∃ a o, x = .ref a ∧ DGet H2 a y o ∧ Q (.bl o.isSome) H2
def tDNotIn (ty td : TE) : TE := fun σ H Q => ty σ H fun y H1 => td σ H1 fun x H2 => ∃ a o, x = .ref a ∧ DGet H2 a y o ∧ Q (.bl (!o.isSome)) H2
/-- d[y] = v -/
def sDPut (td ty tv : TE) : TS := fun D σ H => tv σ H fun v H1 => td σ H1 fun x H2 => ty σ H2 fun y H3 => ∃ a H4, x = .ref a ∧ DPut H3 a y v H4 ∧ D.nx σ H4
/-- d[y] op= v -/
def sDAug (td ty tv : TE) (rd : V → V → Hp → VK → Prop) : TS := fun D σ H => td σ H fun x H1 => ty σ H1 fun y H2 => ∃ a v, x = .ref a ∧ DGet H2 a y (some v) ∧
  tv σ H2 fun y2 H3 => rd v y2 H3 fun z H4 => ∃ H5, DPut H4 a y z H5 ∧ D.nx σ H5
/-- del d[y] -/
def sDDel (td ty : TE) : TS := fun D σ H => td σ H fun x H1 => ty σ H1 fun y H2 => ∃ a kvs k, x = .ref a ∧ H2 a = some (.dK kvs) ∧ y = kV k ∧ (valV kvs k).isSome = true ∧ D.nx σ (upd H2 a (.dK (dropK kvs k)))
section
variable {X : Cx} {o i e value : Expr} {pos pos' tpos : Pos} {td ty tv : TE}
end
/-- {}, to be a dict of the kind that is wanted -/
def tDNewK : TE := fun _ H Q => ∀ p, H p = none → Q (.ref p) (upd H p (.dK []))
def tDNewT : TE := fun _ H Q => ∀ p, H p = none → Q (.ref p) (upd H p (.dT []))
section
variable {X : Cx} {pos : Pos}
end
/-- the pairs of a display, from the left -/
def tPairs : List (TE × TE) → St → Hp → (List (V × V) → Hp → Prop) → Prop
  | [], _, H, Q => Q [] H
  | (tk, tv) :: r, σ, H, Q => tk σ H fun x H1 => tv σ H1 fun y H2 => tPairs r σ H2 fun ps H3 => Q ((x, y) :: ps) H3
abbrev VV : List (V × V) → List (Value × Value) → Prop := Paired fun p q => RelV p.1 q.1 ∧ RelV p.2 q.2
def PPs (X : Cx) (pos : Pos) (keys : List (Option Expr)) (values : List Expr) (trs : List (TE × TE)) : Prop :=
  ∀ (pins : List (Addr × Obj)) (s : Shared) (σ : St) (H : Hp) (Q : List (V × V) → Hp → Prop), Inv X pins σ H s → tPairs trs σ H Q →
    wpAny (model X.prog X.w) X.A (evalPairs (pairTrees keys values X.env pos)) (fun vs s' => ∃ ps H', Inv X pins σ H' s' ∧ VV ps vs ∧ Q ps H') X.xe s
def mergeK (kvs more : List (Key × V)) : List (Key × V) := more.foldl (fun acc kv => putK acc kv.1 kv.2) kvs
/-- {k: v, ..} with keys ints and texts; the new dict stands empty while the pairs are made -/
def tDisp (trs : List (TE × TE)) : TE := fun σ H Q => ∀ p, H p = none → tPairs trs σ (upd H p (.dK [])) fun ps H2 => H2 p = some (.dK []) ∧ ∃ kvs : List (Key × V), ps = kvs.map (fun kv => (kV kv.1, kv.2)) ∧ kvs.length ≤ 15 ∧ Q (.ref p) (upd H2 p (.dK (mergeK [] kvs)))
/-- a method call o.m(e) of a built-in, with one argument: what must be seen of the text -/
structure M1 (X : Cx) (o : Expr) (m : Str) (apos : Pos) (e : Expr) (cpos : Pos) : Prop where
  base : attributeBase o m X.env (eval o X.env) = eval o X.env
  few : ((backTo cpos (starEach [e] X.env)).all (fun x => !x.1) && (backToKw cpos (keywordEach [] X.env)).all (fun x => x.1.isSome)
    && decide (([e] : List Expr).length + ([] : List Keyword).length + (if ([] : List Keyword).isEmpty then 0 else 1) < 30)) = true
  line : (apos.endLine == cpos.line) = true
  trees : backTo cpos (starEach [e] X.env) = [(false, eval e X.env)]
structure M2 (X : Cx) (o : Expr) (m : Str) (apos : Pos) (e f : Expr) (cpos : Pos) : Prop where
  base : attributeBase o m X.env (eval o X.env) = eval o X.env
  few : ((backTo cpos (starEach [e, f] X.env)).all (fun x => !x.1) && (backToKw cpos (keywordEach [] X.env)).all (fun x => x.1.isSome)
    && decide (([e, f] : List Expr).length + ([] : List Keyword).length + (if ([] : List Keyword).isEmpty then 0 else 1) < 30)) = true
  line : (apos.endLine == cpos.line) = true
  trees : backTo cpos (starEach [e, f] X.env) = [(false, eval e X.env), (false, eval f X.env)]
/-- a is a dict, whatever its keys -/
def IsD (H : Hp) (a : Addr) : Prop := (∃ kvs, Rd H a (.dK kvs)) ∨ ∃ kvs, Rd H a (.dT kvs)
section
variable {X : Cx} {pins : List (Addr × Obj)} {σ : St} {H : Hp} {s : Shared} {a : Addr} {y d : V} {u r : Value} {o : Option V} {A : Around} {E : Value → Shared → Prop}
end
def tDGet1 (td ty : TE) : TE := fun σ H Q => td σ H fun x H1 => ∃ a, x = .ref a ∧ IsD H1 a ∧ ty σ H1 fun y H2 => ∃ o, DGet H2 a y o ∧ Q (o.getD .non) H2
def tDGet2 (td ty tx : TE) : TE := fun σ H Q => td σ H fun x H1 => ∃ a, x = .ref a ∧ IsD H1 a ∧ ty σ H1 fun y H2 => tx σ H2 fun z H3 => ∃ o, DGet H3 a y o ∧ Q (o.getD z) H3
/-- d.pop(k): there; d.pop(k, x): there or not -/
def tDPop1 (td ty : TE) : TE := fun σ H Q => td σ H fun x H1 => ∃ a, x = .ref a ∧ IsD H1 a ∧ ty σ H1 fun y H2 => ∃ kvs k v, H2 a = some (.dK kvs) ∧ y = kV k ∧ valV kvs k = some v ∧ Q v (upd H2 a (.dK (dropK kvs k)))
def tDPop2 (td ty tx : TE) : TE := fun σ H Q => td σ H fun x H1 => ∃ a, x = .ref a ∧ IsD H1 a ∧ ty σ H1 fun y H2 => tx σ H2 fun z H3 => ∃ kvs k, H3 a = some (.dK kvs) ∧ y = kV k ∧
  (∀ v, valV kvs k = some v → Q v (upd H3 a (.dK (dropK kvs k)))) ∧ (valV kvs k = none → Q z H3)
section
variable {X : Cx} {o e f : Expr} {apos cpos : Pos} {td ty tx : TE}
end
section
variable {X : Cx} {pins : List (Addr × Obj)} {σ : St} {H : Hp} {s : Shared} {a : Addr} {kvs : List (Key × V)} {A : Around} {E : Value → Shared → Prop}
end
section
variable {X : Cx} {pins : List (Addr × Obj)} {σ : St} {H : Hp} {s : Shared} {a : Addr} {y : V} {u : Value} {A : Around} {E : Value → Shared → Prop}
end
end L2
namespace L2
open PySem PySem.Spec PyProof.Rows
section
variable {prog : Program} {w : World} {A : Around} {E : Value → Shared → Prop}
end
section
variable {X : Cx}
end
end L2
namespace L2
open PySem PySem.Spec PyProof.Rows
section
variable {X : Cx} {pins : List (Addr × Obj)} {σ : St} {H : Hp} {s : Shared} {h' : Heap}
end
/-- the statement runs while the thing at d is locked (read, not written); d and what stands there are the reading's choice -/
def tLock (t : TS) : TS := fun D σ H => ∃ d u, H d = some u ∧ Mut (some u) ∧ ∀ od, t ⟨fun σ' H' => H' d = some (.frz od u) ∧ D.nx σ' (upd H' d u), fun v H' => H' d = some (.frz od u) ∧ D.rt v (upd H' d u), fun σ' H' => H' d = some (.frz od u) ∧ D.bk σ' (upd H' d u), fun σ' H' => H' d = some (.frz od u) ∧ D.ct σ' (upd H' d u)⟩ σ (upd H d (.frz od u))
def tLockE (t : TE) : TE := fun σ H Q => ∃ d u, H d = some u ∧ Mut (some u) ∧ ∀ od, t σ (upd H d (.frz od u)) fun v H' => H' d = some (.frz od u) ∧ Q v (upd H' d u)
section
variable {X : Cx}
theorem pi_one {tg : Expr} {pins : List (Addr × Obj)} {σ : St} {H : Hp} {s : Shared} {R : It → Hp → Prop} {J : It} {tn : Nat → Heap → Prop} {tk : Nat} (I : Inv X pins σ H s) (o : Obj)
    (T : Turn X.prog X.w X.K tg J [s.heap.objs.size] s.heap.objs.size tn) (st : tn 0 (s.heap.push o)) (q : R J H) : PIE X pins σ tg R (.ref s.heap.objs.size) { s with heap := s.heap.push o, toks := tk } := by
  refine ⟨s.heap.objs.size, [s.heap.objs.size], tn, J, H, rfl, I.kept fun b ob e => Heap.get?_push_of_some _ e, T, st, fun b hb => ?_, q⟩
  have e : b = s.heap.objs.size := by simpa using hb
  subst e
  exact I.fpOk (Nat.le_refl _) (I.hok.fresh (Nat.le_refl _))
end
/-- lo, lo + c, .. (n of them) -/
def Itc (lo c : Int) (n : Nat) : It := ⟨fun i _ => i < n, fun i H x H' => H' = H ∧ x = .int (lo + (i : Nat) * c), fun i _ => n ≤ i⟩
/-- range(i, j, c): small bounds, n items -/
def RgC (i j c : Int) (n : Nat) : Prop := c ≠ 0 ∧ c.natAbs < 1073741824 ∧ Builtin.Range.small i j c = true ∧ Builtin.Range.rangeSize i j c = n
theorem RgC.neg {i j : Int} (ha : -(2 ^ 62) ≤ i) (ha' : i < 2 ^ 62) (hb : -(2 ^ 62) ≤ j) (hb' : j < 2 ^ 62) : RgC i j (-1) (i - j).toNat :=
  ⟨by decide, by decide, PySem.W.small_down ha ha' hb hb', PySem.W.rangeSize_downNat i j⟩
def iRng3 (ta : TA) : TI := fun σ H R => ta σ H fun vs H1 => ∃ (i j c : Int) (n : Nat), vs = [.int i, .int j, .int c] ∧ RgC i j c n ∧ R (Itc i c n) H1
section
variable {X : Cx} {tg : Expr}
end
/-- the list at a (n items at the start, which the loop leaves there), from its end -/
def Itv (K : PySem.W.Frag) (a : Addr) (n : Nat) : It :=
  ⟨fun i H => i < n ∧ ∃ (xs : List V) (x : V), SqL K H a xs ∧ xs[n - 1 - i]? = some x, fun i H x H' => H' = H ∧ ∀ xs, SqL K H a xs → xs[n - 1 - i]? = some x, fun i _ => n ≤ i⟩
def iRev (K : PySem.W.Frag) (ta : TA) : TI := fun σ H R => ta σ H fun vs H1 => ∃ (a : Addr) (xs : List V), vs = [.ref a] ∧ SqL K H1 a xs ∧ R (Itv K a xs.length) H1
section
variable {X : Cx} {tg : Expr}
end
def Its (x : Str) : It := ⟨fun i _ => i < x.cps.size, fun i H v H' => H' = H ∧ ∃ c, x.cps[i]? = some c ∧ v = .str ⟨#[c]⟩, fun i _ => x.cps.size ≤ i⟩
theorem turn_str {P : Program} {w : World} {K : PySem.W.Frag} {tg : Expr} (it : Addr) (x : Str) (t : Tok) (ty : String) (hty : ty = "str_ascii_iterator" ∨ ty = "str_iterator") :
    Turn P w K tg (Its x) [it] it (fun i h => h.IsStrIter it ty x t i) where
  mem := by simp
  obj := fun i h st b hb => by
    have e : b = it := by simpa using hb
    subst e
    obtain ⟨o, e, c, d⟩ := st
    exact ⟨o, e, fun v z => by rw [d] at z; cases z⟩
  keep := fun i h h' st k => let ⟨o, ho, r⟩ := st; ⟨o, k it (by simp) o ho, r⟩
  item := by
    intro X hP hw hK hc i pins s σ H E I hf st hg
    subst hP hw hK
    obtain ⟨f0, f1, f2, f3, f4, f5⟩ := hf it (by simp)
    have W : Walks X.prog X.w X.A it [it] [it] x.cps.size (SignAt x) (fun i h => h.IsStrIter it ty x t i) := by
      rcases hty with e | e
      · rw [e]; exact Walks.strAscii (I.ok.hd hc) it x t
      · rw [e]; exact Walks.strWide (I.ok.hd hc) it x t
    have hno : ["enumerate", "zip", "dict_itemiterator", "dict_reverseitemiterator", "odict_iterator", "itertools.zip_longest", "itertools.pairwise"].contains ty = false := by
      rcases hty with e | e
      · rw [e]; decide
      · rw [e]; decide
    refine W.item i s _ _ hg st fun v h' tk hv st' kk => ?_
    obtain ⟨c, u, hcx, rfl⟩ := hv
    have I1 : Inv X pins σ H { s with heap := h', toks := tk } := I.turned (fun b o hb e => kk b o (by simpa using hb) e) f0 f1 f3 f4 f5
    obtain ⟨oi, e, cc, dd⟩ := id st'
    exact ⟨_, rfl, go_of (s := { s with heap := h', toks := tk }) e cc dd hno ⟨.str ⟨#[c]⟩, H, I1, ⟨u, rfl⟩, ⟨rfl, c, hcx, rfl⟩, st', fun b hb => (hf b hb).1⟩⟩
  done := by
    intro X hP hw hK hc i pins s σ H E I hf st hg
    subst hP hw hK
    obtain ⟨f0, f1, f2, f3, f4, f5⟩ := hf it (by simp)
    have hx : x.cps[i]? = none := Array.getElem?_eq_none hg
    rcases hty with e | e
    · rw [e] at st
      exact wpAny_pyNext_ascii_end (I.ok.hd hc) st hx fun h' eb => ⟨rfl, I.turned (t' := s.toks) (fun b o hb e => eb b o hb e) f0 f1 f3 f4 f5⟩
    · rw [e] at st
      exact wpAny_pyNext_wide_end (I.ok.hd hc) st hx fun h' eb => ⟨rfl, I.turned (t' := s.toks) (fun b o hb e => eb b o hb e) f0 f1 f3 f4 f5⟩
  self := fun A i s Q E st h => by
    rcases hty with e | e
    · rw [e] at st; exact wpAny_pyIter_striter_ascii st h
    · rw [e] at st; exact wpAny_pyIter_striter_wide st h
def iStr (te : TE) : TI := fun σ H R => te σ H fun v H1 => ∃ x, v = .str x ∧ R (Its x) H1
theorem pi_str {X : Cx} {tg e : Expr} {te : TE} (he : PE X e te) : PI X tg e (iStr te) := by
  intro pins s σ H R I h
  refine thn (he pins s σ H _ I h) fun v s1 ⟨y, H1, I1, r1, x, ex, q⟩ => ?_
  subst ex
  obtain ⟨t, rfl⟩ := r1
  cases ha : x.cps.all (· < 128)
  · exact wpAny_pyIter_wide ha (pi_one (tk := s1.toks) I1 _ (turn_str _ x t "str_iterator" (.inr rfl)) ⟨_, Heap.get?_push_size _ rfl, rfl, rfl⟩ q)
  · exact wpAny_pyIter_ascii ha (pi_one (tk := s1.toks) I1 _ (turn_str _ x t "str_ascii_iterator" (.inl rfl)) ⟨_, Heap.get?_push_size _ rfl, rfl, rfl⟩ q)
section
variable {prog : Program} {w : World} {A : Around} {E : Value → Shared → Prop} {s : Shared}
end
section
variable {X : Cx} {pins : List (Addr × Obj)} {σ : St} {H : Hp} {s : Shared} {d : Addr} {o : Obj}
end
/-- the keys of the locked dict at d, in their order -/
def Itk (d : Addr) (o : Obj) (kvs : List (Key × V)) : It :=
  ⟨fun i H => H d = some (.frz o (.dK kvs)) ∧ i < kvs.length, fun i H x H' => H' = H ∧ ∃ k v, kvs[i]? = some (k, v) ∧ x = kV k, fun i H => H d = some (.frz o (.dK kvs)) ∧ kvs.length ≤ i⟩
/-- .. of tuple keys: the key's own tuple -/
def Itkt (d : Addr) (o : Obj) (kvs : List (List Key × V)) : It :=
  ⟨fun i H => H d = some (.frz o (.dT kvs)) ∧ i < kvs.length, fun i H x H' => H' = H ∧ ∃ (k : List Key) (v : V) (q : Addr), kvs[i]? = some (k, v) ∧ x = .ref q ∧ H q = some (.tup (k.map kV)), fun i H => H d = some (.frz o (.dT kvs)) ∧ kvs.length ≤ i⟩
/-- the values -/
def Itd (d : Addr) (o : Obj) (kvs : List (Key × V)) : It :=
  ⟨fun i H => H d = some (.frz o (.dK kvs)) ∧ i < kvs.length, fun i H x H' => H' = H ∧ ∃ k, kvs[i]? = some (k, x), fun i H => H d = some (.frz o (.dK kvs)) ∧ kvs.length ≤ i⟩
/-- the pairs, each a new tuple -/
def Iti (d : Addr) (o : Obj) (kvs : List (Key × V)) : It :=
  ⟨fun i H => H d = some (.frz o (.dK kvs)) ∧ i < kvs.length, fun i H x H' => ∃ T k v, kvs[i]? = some (k, v) ∧ x = .ref T ∧ H T = none ∧ H' = upd H T (.tup [kV k, v]), fun i H => H d = some (.frz o (.dK kvs)) ∧ kvs.length ≤ i⟩
section
variable {P : Program} {w : World} {K : PySem.W.Frag} {tg : Expr} {d : Addr} {o : Obj} {es : Array DictEntry} {ep : Nat}
end
/-- the dict is locked (tLock, or by the caller) -/
def iKeys (td : TE) : TI := fun σ H R => td σ H fun x H1 => ∃ d o, x = .ref d ∧ ((∃ kvs, H1 d = some (.frz o (.dK kvs)) ∧ R (Itk d o kvs) H1) ∨ ∃ kvs, H1 d = some (.frz o (.dT kvs)) ∧ R (Itkt d o kvs) H1)
def iVals (td : TE) : TI := fun σ H R => td σ H fun x H1 => ∃ d o kvs, x = .ref d ∧ H1 d = some (.frz o (.dK kvs)) ∧ R (Itd d o kvs) H1
def iItems (td : TE) : TI := fun σ H R => td σ H fun x H1 => ∃ d o kvs, x = .ref d ∧ H1 d = some (.frz o (.dK kvs)) ∧ R (Iti d o kvs) H1
def iKeysM (td : TE) : TI := fun σ H R => td σ H fun x H1 => ∃ d o kvs, x = .ref d ∧ H1 d = some (.frz o (.dK kvs)) ∧ R (Itk d o kvs) H1
section
variable {X : Cx} {tg e : Expr} {td : TE} {apos cpos : Pos}
end
/-- the list at a as it stands at each turn, each item in a new pair -/
def Ite (K : PySem.W.Frag) (a : Addr) : It :=
  ⟨fun i H => ∃ (xs : List V) (x : V), SqL K H a xs ∧ xs[i]? = some x, fun i H v H' => ∃ T x, v = .ref T ∧ H T = none ∧ H' = upd H T (.tup [.int (i : Nat), x]) ∧ ∀ xs, SqL K H a xs → xs[i]? = some x, fun i H => ∃ xs : List V, SqL K H a xs ∧ xs.length ≤ i⟩
def iEnum (K : PySem.W.Frag) (ta : TA) : TI := fun σ H R => ta σ H fun vs H1 => ∃ a xs, vs = [.ref a] ∧ SqL K H1 a xs ∧ R (Ite K a) H1
/-- the lists at a and b as they stand at each turn, the items in new pairs -/
def Itz (K : PySem.W.Frag) (a b : Addr) : It :=
  ⟨fun i H => ∃ (xs ys : List V) (x y : V), SqL K H a xs ∧ SqL K H b ys ∧ xs[i]? = some x ∧ ys[i]? = some y,
    fun i H v H' => ∃ T x y, v = .ref T ∧ H T = none ∧ H' = upd H T (.tup [x, y]) ∧ (∀ xs, SqL K H a xs → xs[i]? = some x) ∧ ∀ ys, SqL K H b ys → ys[i]? = some y,
    fun i H => ∃ xs ys : List V, SqL K H a xs ∧ SqL K H b ys ∧ (xs.length ≤ i ∨ ys.length ≤ i)⟩
def iZip (K : PySem.W.Frag) (ta : TA) : TI := fun σ H R => ta σ H fun vs H1 => ∃ a b xs ys, vs = [.ref a, .ref b] ∧ SqL K H1 a xs ∧ SqL K H1 b ys ∧ R (Itz K a b) H1
end L2
section 
namespace Bits
open PySem PyProof.Rows
end Bits
end 
section 
namespace TL
open PySem PySem.Builtin PySem.Builtin.Str PySem.StrLaws
abbrev tl (x : Str) : List Nat := x.cps.toList
theorem len_tl (x : Str) : x.length = (tl x).length := by simp [tl, Str.length]
theorem tl_append (x y : Str) : tl (x ++ y) = tl x ++ tl y := by
  show (x ++ y).cps.toList = _
  rw [Str.cps_append, Array.toList_append]
/-- S stands at the head of l -/
def pre (S l : List Nat) : Bool := l.take S.length == S
/-- l cut at each S from the left; k signs are still to be passed over -/
def spl (S : List Nat) : Nat → List Nat → List Nat → List (List Nat)
  | _, acc, [] => [acc]
  | 0, acc, c :: r => if pre S (c :: r) = true then acc :: spl S (S.length - 1) [] r else spl S 0 (acc ++ [c]) r
  | k + 1, acc, _ :: r => spl S k acc r
/-- what stands before the first S, and behind it -/
def par (S : List Nat) : List Nat → List Nat → Option (List Nat × List Nat)
  | _, [] => none
  | acc, c :: r => if pre S (c :: r) = true then some (acc, (c :: r).drop S.length) else par S (acc ++ [c]) r
theorem spl_nil (S : List Nat) (k : Nat) (acc : List Nat) : spl S k acc [] = [acc] := by cases k <;> rfl
theorem spl_hit {S acc r : List Nat} {c : Nat} (h : pre S (c :: r) = true) : spl S 0 acc (c :: r) = acc :: spl S (S.length - 1) [] r := by
  show (if pre S (c :: r) = true then acc :: spl S (S.length - 1) [] r else spl S 0 (acc ++ [c]) r) = _
  rw [if_pos h]
theorem spl_miss {S acc r : List Nat} {c : Nat} (h : pre S (c :: r) = false) : spl S 0 acc (c :: r) = spl S 0 (acc ++ [c]) r := by
  show (if pre S (c :: r) = true then acc :: spl S (S.length - 1) [] r else spl S 0 (acc ++ [c]) r) = _
  rw [if_neg (by rw [h]; exact Bool.false_ne_true)]
theorem spl_pass (S : List Nat) : ∀ (k : Nat) (acc l : List Nat), spl S k acc l = spl S 0 acc (l.drop k)
  | 0, _, _ => by rw [List.drop_zero]
  | k + 1, acc, [] => by rw [List.drop_nil, spl_nil, spl_nil]
  | k + 1, acc, c :: r => by
    show spl S k acc r = spl S 0 acc (r.drop k)
    exact spl_pass S k acc r
theorem pre_nil {S : List Nat} (hS : S ≠ []) : pre S [] = false := by
  cases S with
  | nil => exact absurd rfl hS
  | cons s S => rfl
theorem getElem_drop_cons {L : List Nat} {a : Nat} (h : a < L.length) : ∃ c, L.drop a = c :: L.drop (a + 1) := ⟨L[a], List.drop_eq_getElem_cons h⟩
theorem spl_run (S L : List Nat) : ∀ (m a : Nat) (acc : List Nat), a + m ≤ L.length → (∀ k, a ≤ k → k < a + m → pre S (L.drop k) = false) →
    spl S 0 acc (L.drop a) = spl S 0 (acc ++ (L.drop a).take m) (L.drop (a + m))
  | 0, a, acc, _, _ => by rw [List.take_zero, List.append_nil, Nat.add_zero]
  | m + 1, a, acc, h, hn => by
    have hlt : a < L.length := by omega
    obtain ⟨c, e⟩ := getElem_drop_cons hlt
    have h0 := hn a (Nat.le_refl _) (by omega)
    have ih := spl_run S L m (a + 1) (acc ++ [c]) (by omega) (fun k h1 h2 => hn k (by omega) (by omega))
    have e2 : a + 1 + m = a + (m + 1) := by omega
    rw [e2] at ih
    rw [e] at h0
    rw [e, spl_miss h0, ih, List.take_succ_cons, List.append_assoc] <;> rfl
theorem drop_two (L : List Nat) (a b : Nat) : (L.drop a).drop b = L.drop (a + b) := by
  first
    | rw [List.drop_drop]
    | rw [List.drop_drop, Nat.add_comm]
theorem spl_at {S L : List Nat} (hS : S ≠ []) {c : Nat} {acc : List Nat} (h : pre S (L.drop c) = true) : spl S 0 acc (L.drop c) = acc :: spl S 0 [] (L.drop (c + S.length)) := by
  rw [← drop_two]
  cases e : L.drop c with
  | nil => rw [e, pre_nil hS] at h; cases h
  | cons d r =>
    rw [e] at h
    rw [spl_hit h, spl_pass]
    cases S with
    | nil => exact absurd rfl hS
    | cons s S => rfl
theorem at_iff {x y : Str} (hy : tl y ≠ []) (i : Nat) : At x y x.length i ↔ pre (tl y) ((tl x).drop i) = true := by
  have hx := len_tl x
  have hl := len_tl y
  constructor
  · intro h
    have h2 := h.2
    rw [subAt_eq, hl] at h2
    exact h2
  · intro h
    have e : ((tl x).drop i).take (tl y).length = tl y := eq_of_beq h
    have e1 := congrArg List.length e
    rw [List.length_take, List.length_drop] at e1
    have e2 : 0 < (tl y).length := List.length_pos_iff.mpr hy
    refine ⟨by omega, ?_⟩
    rw [subAt_eq, hl]
    exact h
theorem no_at {x y : Str} (hy : tl y ≠ []) {i : Nat} (h : ¬ At x y x.length i) : pre (tl y) ((tl x).drop i) = false := by
  cases hp : pre (tl y) ((tl x).drop i) with
  | false => rfl
  | true => exact absurd ((at_iff hy i).mpr hp) h
theorem len1 {y : Str} (hy : tl y ≠ []) : 1 ≤ y.length := by
  have e2 : 0 < (tl y).length := List.length_pos_iff.mpr hy
  rw [len_tl y]
  exact e2
theorem tl_strSub (x : Str) (i j : Nat) : tl (strSub x i j) = ((tl x).drop i).take (j - i) := strSub_toList x i j
theorem tl_strSub_end (x : Str) (i : Nat) : tl (strSub x i x.length) = (tl x).drop i := by
  rw [tl_strSub, len_tl x]
  exact List.take_of_length_le (by rw [List.length_drop] <;> omega)
theorem parts_spl {x y : Str} (hy : tl y ≠ []) : ∀ (cuts : List Nat) (a f : Nat), a ≤ (tl x).length → ChainG x y x.length a cuts f → (∀ k, f ≤ k → ¬ At x y x.length k) →
    (partsFrom x y.length a cuts).map tl = spl (tl y) 0 [] ((tl x).drop a)
  | [], a, f, ha, h, hn => by
    have e : f = a := h
    subst e
    show [tl (strSub x f x.length)] = _
    have run := spl_run (tl y) (tl x) ((tl x).length - f) f [] (by omega) (fun k h1 _ => no_at hy (hn k h1))
    have e2 : f + ((tl x).length - f) = (tl x).length := by omega
    rw [e2, List.drop_length, spl_nil, List.nil_append, List.take_of_length_le (by rw [List.length_drop] <;> omega)] at run
    rw [run, tl_strSub_end]
  | c :: r, a, f, ha, h, hn => by
    obtain ⟨h1, h2, h3, h4⟩ := h
    have hc : c + y.length ≤ x.length := h2.1
    have hx := len_tl x
    have hl := len_tl y
    have ih := parts_spl hy r (c + y.length) f (by omega) h4 hn
    show tl (strSub x a c) :: (partsFrom x y.length (c + y.length) r).map tl = _
    have run := spl_run (tl y) (tl x) (c - a) a [] (by omega) (fun k k1 k2 => no_at hy (h3 k k1 (by omega)))
    have e2 : a + (c - a) = c := by omega
    rw [e2, List.nil_append, spl_at hy ((at_iff hy c).mp h2)] at run
    rw [run, ih, tl_strSub, hl]
/-- hk: by kind_ok where the separator is plain -/
theorem split_spl (x y : Str) (hy : tl y ≠ []) (hk : ¬ Builtin.Str.strKind x < Builtin.Str.strKind y) : (Txt.split x y).map tl = spl (tl y) 0 [] (tl x) := by
  obtain ⟨f, g, hn⟩ := occ_tight x y (len1 hy)
  have key := parts_spl hy _ 0 f (Nat.zero_le _) g hn
  rw [List.drop_zero] at key
  have none_case : occurrences x y 0 x.length (x.length + 1) = [] → [x].map tl = spl (tl y) 0 [] (tl x) := fun ho => by
    rw [ho] at key
    rw [← key]
    show [tl x] = [tl (strSub x 0 x.length)]
    rw [sub_whole]
  unfold Txt.split
  by_cases h1 : (decide (x.length < y.length) || decide (Builtin.Str.strKind x < Builtin.Str.strKind y)) = true
  · rw [if_pos h1]
    have hlt : x.length < y.length := by
      simp only [Bool.or_eq_true, decide_eq_true_eq] at h1
      rcases h1 with h | h
      · exact h
      · exact absurd h hk
    refine none_case ?_
    cases ho : occurrences x y 0 x.length (x.length + 1) with
    | nil => rfl
    | cons c r =>
      rw [ho] at g
      have hc : c + y.length ≤ x.length := g.2.1.1
      omega
  · rw [if_neg h1]
    by_cases h2 : (occurrences x y 0 x.length (x.length + 1)).isEmpty = true
    · rw [if_pos h2]
      exact none_case (List.isEmpty_iff.mp h2)
    · rw [if_neg h2, partsBetween_eq]
      exact key
theorem kind_ok {x y : Str} (h : y.cps.all (· < 256) = true) : ¬ Builtin.Str.strKind x < Builtin.Str.strKind y := by
  have e : Builtin.Str.strKind y = 1 := by unfold PySem.Builtin.Str.strKind; rw [if_pos h]
  rw [e]
  unfold PySem.Builtin.Str.strKind
  split
  · omega
  · split <;> omega
/-- joined lists -/
def joinL (S : List Nat) : List (List Nat) → List Nat
  | [] => []
  | [p] => p
  | p :: q :: r => p ++ (S ++ joinL S (q :: r))
theorem tl_join (y : Str) : ∀ parts : List Str, tl (Str.join y parts) = joinL (tl y) (parts.map tl)
  | [] => rfl
  | [_] => rfl
  | x :: z :: r => by
    show tl (x ++ y ++ Str.join y (z :: r)) = tl x ++ (tl y ++ joinL (tl y) ((z :: r).map tl))
    rw [tl_append, tl_append, tl_join y (z :: r), List.append_assoc]
theorem join_eq (y : Str) (parts : List Str) : Txt.join y parts = Str.join y parts := glued_eq_join y parts
/-- the signs of a number -/
def numL (n : Nat) : List Nat := (Nat.toDigits 10 n).map Char.toNat
theorem tl_num (n : Nat) : tl (Str.ofString (toString ((n : Nat) : Int))) = numL n := PySem.W.KIN.signs_num n
def wstep (st : List (List Nat) × List Nat) (c : Nat) : List (List Nat) × List Nat :=
  if Unicode.isSpace c = true then (if st.2 = [] then st else (st.1 ++ [st.2], [])) else (st.1, st.2 ++ [c])
def wfin (st : List (List Nat) × List Nat) : List (List Nat) := if st.2 = [] then st.1 else st.1 ++ [st.2]
end TL
end 
namespace L2
open PySem PySem.Spec PyProof.Rows
/-- a list of texts, of numbered texts -/
theorem vals_strs : ∀ l : List (Str × Tok), Vals ((l.map (·.1)).map V.str) (strValues l)
  | [] => .nil
  | p :: r => .cons ⟨p.2, rfl⟩ (vals_strs r)
theorem strs_of_vals : ∀ {ys : List Str} {us : List Value}, Vals (ys.map V.str) us → StrsAre us ys
  | [], _, .nil => .nil
  | y :: ys, _, .cons r t => by
    obtain ⟨k, rfl⟩ := r
    exact .cons y k (strs_of_vals t)
/-- a new list of texts, tracked -/
def rNewStrs (ys : List Str) : Hp → VK → Prop := fun H Q => ∀ p, H p = none → Q (.ref p) (upd H p (.lst (ys.map V.str)))
section
variable {X : Cx} {pins : List (Addr × Obj)} {σ : St} {H : Hp} {s : Shared} {Q : VK}
theorem laid_strs {l : List (Str × Tok)} {ys : List Str} {k : Nat} (I : Inv X pins σ H s) (e : l.map (·.1) = ys) (hz : ys.length ≤ sizeLine) (h : rNewStrs ys H Q) :
    EP X pins σ Q (.ref s.heap.objs.size) { s with toks := k, heap := s.heap.push { cls := .type "list", data := .seq (strValues l).toArray } } := by
  have hp := I.hok.fresh (Nat.le_refl _)
  refine ⟨.ref s.heap.objs.size, upd H s.heap.objs.size (.lst (ys.map V.str)), I.laid (fun b u q => Heap.get?_push_of_some _ q) (Nat.le_refl _) ⟨by rw [List.length_map]; exact hz, strValues l, _, ?_, Heap.get?_push_size _ rfl⟩, rfl, h _ hp⟩
  rw [← e]
  exact vals_strs l
end
section
variable {X : Cx}
/-- x.split(sep) -/
theorem mt_split : MtR X "str.split" (fun x xs H Q => ∃ a b, x = .str a ∧ xs = [.str b] ∧ (b.length == 0) = false ∧ a.length + 2 ≤ sizeLine ∧ rNewStrs (Txt.split a b) H Q) := by
  intro pins s σ H x xs v us Q I rx rs h
  obtain ⟨a, b, rfl, rfl, hb, hz, h⟩ := h
  obtain ⟨t, rfl⟩ := rx
  cases rs with
  | cons r1 rs =>
    cases rs
    obtain ⟨u, rfl⟩ := r1
    have hl : (Txt.split a b).length ≤ sizeLine := Nat.le_trans (PyProof.Rows.split_le a b) hz
    have hn : (Builtin.Str.partsBetween a (Builtin.Str.occurrences a b 0 a.length (a.length + 1)) b.length).length ≤ sizeLine := by
      have e1 := StrLaws.occ_length_le a b 0 a.length (a.length + 1)
      rw [length_partsBetween]; omega
    cases h1 : (decide (a.length < b.length) || decide (Builtin.Str.strKind a < Builtin.Str.strKind b))
    · cases hf : (Builtin.Str.occurrences a b 0 a.length (a.length + 1)).isEmpty
      · refine call_meets F.slot_str_split (typeIs_str _ _ _) F.entry_str_split (F.args_str_split_2 _ _) (meets_str_split_sep a b t u h1 hb hf (by omega) hn) ?_
        show EP X pins σ Q (.ref s.heap.objs.size) { s with toks := _, heap := s.heap.push { cls := .type "list", data := .seq (strsFrom s.toks (Builtin.Str.partsBetween a (Builtin.Str.occurrences a b 0 a.length (a.length + 1)) b.length)).toArray } }
        rw [strsFrom_eq]
        exact laid_strs (ys := Txt.split a b) I ((numbered_texts _ _).trans ((if_neg (ne_true_of_eq_false h1)).trans (if_neg (ne_true_of_eq_false hf))).symm) hl h
      · refine call_meets F.slot_str_split (typeIs_str _ _ _) F.entry_str_split (F.args_str_split_2 _ _) (meets_str_split_not_found a b t u h1 hb hf) ?_
        exact laid_strs (l := [(a, t)]) (ys := Txt.split a b) (k := s.toks) I ((if_neg (ne_true_of_eq_false h1)).trans (if_pos hf)).symm hl h
    · refine call_meets F.slot_str_split (typeIs_str _ _ _) F.entry_str_split (F.args_str_split_2 _ _) (meets_str_split_cannot_occur a b t u h1) ?_
      exact laid_strs (l := [(a, t)]) (ys := Txt.split a b) (k := s.toks) I (if_pos h1).symm hl h
/-- sep.join(a list | a tuple of texts) -/
theorem mt_join : MtR X "str.join" (fun x xs H Q => ∃ a p, ∃ ys : List Str, x = .str a ∧ xs = [.ref p] ∧ (SqL X.K H p (ys.map V.str) ∨ SqT X.K H p (ys.map V.str)) ∧
    (ys.map (·.length)).sum + ys.length * a.length ≤ 16777216 ∧ Q (.str (Txt.join a ys)) H) := by
  intro pins s σ H x xs v us Q I rx rs h
  obtain ⟨a, p, ys, rfl, rfl, hp, hz, h⟩ := h
  obtain ⟨t, rfl⟩ := rx
  cases rs with
  | cons r1 rs =>
    cases rs
    cases r1
    rcases hp with hp | hp
    · obtain ⟨its, r, ⟨o, n, ho, hc, _, hd⟩, _⟩ := I.list hp
      exact PyProof.Rows.join_list (items := its.toArray) ⟨o, ho, hc, n, hd⟩ (by rw [List.toList_toArray]; exact strs_of_vals r) hz fun t' k => ⟨.str _, H, I.tok k, ⟨t', rfl⟩, h⟩
    · obtain ⟨its, r, ht, _⟩ := I.tuple hp
      exact PyProof.Rows.join_tuple (items := its.toArray) ht (by rw [List.toList_toArray]; exact strs_of_vals r) hz fun t' k => ⟨.str _, H, I.tok k, ⟨t', rfl⟩, h⟩
end
section
variable {X : Cx} {o e : Expr} {to te : TE}
def tM0 (r : V → List V → Hp → VK → Prop) (to : TE) : TE := fun σ H Q => to σ H fun x H1 => (∃ a, x = .str a) ∧ r x [] H1 Q
def tM1 (r : V → List V → Hp → VK → Prop) (to te : TE) : TE := fun σ H Q => to σ H fun x H1 => (∃ a, x = .str a) ∧ te σ H1 fun y H2 => r x [y] H2 Q
theorem pe_m1 {id : String} {name : Str} {apos pos : Pos} {r : V → List V → Hp → VK → Prop} (slot : Slot "str" name id) (ty : typeOf (.builtin id) = pure (.type "method_descriptor")) (rule : MtR X id r) (ho : PE X o to) (he : PE X e te)
    (hs : starEach [e] X.env = [(false, eval e X.env)] := by rfl) (hbase : attributeBase o name X.env (eval o X.env) = eval o X.env := by rfl) (hline : (apos.endLine == pos.line) = true := by rfl) :
    PE X (.Call (.Attribute o name apos) [e] [] pos) (tM1 r to te) := by
  intro pins s σ H Q I h
  refine PySem.Call_method1 hbase hs hline (thn (ho pins s σ H _ I h) fun v s1 ⟨x, H1, I1, r1, q1⟩ => ?_)
  obtain ⟨⟨a, rfl⟩, q1⟩ := q1
  obtain ⟨t, rfl⟩ := _root_.id r1
  refine ⟨"str", _, F.plainAttrs_str, slot, ty, typeIs_str _ _ _, (fun _ e => nomatch e), Calls.callWith_builtin rfl (Calls.evalArgs_plain (Calls.spliced_cons ?_))⟩
  exact thn (he pins s1 σ H1 _ I1 q1) fun u s2 ⟨y, H2, I2, r2, q2⟩ => Calls.spliced_nil (rule pins s2 σ H2 _ [y] _ [u] Q I2 r1 (.cons r2 .nil) q2)
theorem pe_split {apos pos : Pos} (ho : PE X o to) (he : PE X e te) (hs : starEach [e] X.env = [(false, eval e X.env)] := by rfl) (hbase : attributeBase o "split" X.env (eval o X.env) = eval o X.env := by rfl) (hline : (apos.endLine == pos.line) = true := by rfl) :
    PE X (.Call (.Attribute o "split" apos) [e] [] pos) (tM1 (fun x xs H Q => ∃ a b, x = .str a ∧ xs = [.str b] ∧ (b.length == 0) = false ∧ a.length + 2 ≤ sizeLine ∧ rNewStrs (Txt.split a b) H Q) to te) :=
  pe_m1 F.slot_str_split F.type_str_split mt_split ho he hs hbase hline
theorem pe_join {apos pos : Pos} (ho : PE X o to) (he : PE X e te) (hs : starEach [e] X.env = [(false, eval e X.env)] := by rfl) (hbase : attributeBase o "join" X.env (eval o X.env) = eval o X.env := by rfl) (hline : (apos.endLine == pos.line) = true := by rfl) :
    PE X (.Call (.Attribute o "join" apos) [e] [] pos) (tM1 (fun x xs H Q => ∃ a p, ∃ ys : List Str, x = .str a ∧ xs = [.ref p] ∧ (SqL X.K H p (ys.map V.str) ∨ SqT X.K H p (ys.map V.str)) ∧
      (ys.map (·.length)).sum + ys.length * a.length ≤ 16777216 ∧ Q (.str (Txt.join a ys)) H) to te) :=
  pe_m1 F.slot_str_join F.type_str_join mt_join ho he hs hbase hline
end
end L2
namespace L2
open PySem PySem.Spec PyProof.Rows
section
variable {X : Cx}
/-- one sign in a text -/
theorem op_in_sign : OpR X (compareOp .In) (fun x y H Q => ∃ (c : Nat) (z : Str), x = .str ⟨#[c]⟩ ∧ y = .str z ∧ Q (.bl (decide (c ∈ z.cps.toList))) H) := by
  intro pins s σ H x y v u Q I rx ry h
  obtain ⟨c, z, rfl, rfl, q⟩ := h
  obtain ⟨t, rfl⟩ := rx
  obtain ⟨t', rfl⟩ := ry
  exact PyProof.Rows.in_str (fin_bl I q (PySem.StrLaws.found_one z c).symm)
end
theorem IsPart.raw {v : Value} {o : Option Int} (p : IsPart v o) : ∃ l : Option (Int × Tok), v = partValue l ∧ l.map (·.1) = o := by
  cases p with
  | none => exact ⟨none, rfl, rfl⟩
  | int i t => exact ⟨some (i, t), rfl, rfl⟩
/-- a part, clipped, as the text's slice reckons it -/
def clipS (n d : Nat) : Option Int → Int
  | none => (d : Int)
  | some i => max 0 (min (if i < 0 then i + (n : Int) else i) (n : Int))
theorem clipS_eq (n d : Nat) (o : Option Int) : clipS n d o = ((HT.sIx n d o : Nat) : Int) := by
  cases o with
  | none => rfl
  | some v =>
    show max (0 : Int) (min (if v < 0 then v + (n : Int) else v) (n : Int)) = (((if v < 0 then (v + (n : Int)).toNat else min v.toNat n) : Nat) : Int)
    by_cases hv : v < 0
    · simp only [if_pos hv]
      omega
    · simp only [if_neg hv]
      omega
theorem sidx_clip (a b : Option Int) (n : Nat) : Builtin.Str.strSliceIndices a b 1 n = sliceRange (clipS n 0 a) (clipS n n b) 1 := by
  have h1 : ((1 : Int) > 0) = True := by simp
  cases a <;> cases b <;> first
    | rfl
    | (simp only [Builtin.Str.strSliceIndices, clipS, h1, if_true]; rfl)
    | simp [Builtin.Str.strSliceIndices, clipS]
theorem sidx (a b : Option Int) (n : Nat) : Builtin.Str.strSliceIndices a b 1 n = (List.range (HT.sIx n n b - HT.sIx n 0 a)).map (fun k => HT.sIx n 0 a + k) := by
  rw [sidx_clip, clipS_eq, clipS_eq]
  generalize HT.sIx n 0 a = p
  generalize HT.sIx n n b = q
  simp only [sliceRange, show ((1 : Int) > 0) = True from by simp, if_true]
  by_cases hlt : (p : Int) < q
  · have e3 : (((q : Int) - p + 1 - 1) / 1).toNat = q - p := by first | omega | (simp; done) | (simp; omega)
    simp only [hlt, if_true, e3]
    refine List.map_congr_left fun k _ => ?_
    omega
  · have : q - p = 0 := by omega
    simp [hlt, this]
/-- z[lo:hi] -/
def cutS (z : Str) (lo hi : Option Int) : Str :=
  ⟨((z.cps.toList.drop (HT.sIx z.length 0 lo)).take (HT.sIx z.length z.length hi - HT.sIx z.length 0 lo)).toArray⟩
theorem sliceText_cut (z : Str) (lo hi : Option Int) : PySem.StrLaws.sliceText z lo hi = cutS z lo hi := by
  have h1 : HT.sIx z.length 0 lo ≤ z.length := HT.sIx_le _ _ (Nat.zero_le _) _
  have h2 : HT.sIx z.length z.length hi ≤ z.length := HT.sIx_le _ _ (Nat.le_refl _) _
  have hp : HT.sIx z.length 0 lo ≤ max (HT.sIx z.length 0 lo) (HT.sIx z.length z.length hi) := Nat.le_max_left _ _
  have hq : max (HT.sIx z.length 0 lo) (HT.sIx z.length z.length hi) ≤ z.length := Nat.max_le.mpr ⟨h1, h2⟩
  have hd : max (HT.sIx z.length 0 lo) (HT.sIx z.length z.length hi) - HT.sIx z.length 0 lo = HT.sIx z.length z.length hi - HT.sIx z.length 0 lo := by omega
  have e : Builtin.Str.strSliceIndices lo hi 1 z.length =
      Builtin.Str.strSliceIndices (some ((HT.sIx z.length 0 lo : Nat) : Int)) (some ((max (HT.sIx z.length 0 lo) (HT.sIx z.length z.length hi) : Nat) : Int)) 1 z.length := by
    rw [PySem.StrLaws.strSliceIndices_plain hp hq, hd, sidx]
  have e2 : PySem.StrLaws.sliceText z lo hi =
      PySem.StrLaws.sliceText z (some ((HT.sIx z.length 0 lo : Nat) : Int)) (some ((max (HT.sIx z.length 0 lo) (HT.sIx z.length z.length hi) : Nat) : Int)) := by
    unfold PySem.StrLaws.sliceText
    rw [e]
  rw [e2, PySem.StrLaws.sliceText_nat z hp hq, hd]
  rfl
theorem cutS_length (z : Str) (lo hi : Option Int) : (cutS z lo hi).length ≤ z.length := by
  show (((z.cps.toList.drop (HT.sIx z.length 0 lo)).take (HT.sIx z.length z.length hi - HT.sIx z.length 0 lo)).toArray).size ≤ z.cps.size
  rw [List.size_toArray, List.length_take, List.length_drop, Array.length_toList]
  omega
def rSlS : V → Option Int → Option Int → Hp → VK → Prop := fun x lo hi H Q => ∃ z, x = .str z ∧ z.length ≤ sizeLine ∧ Q (.str (cutS z lo hi)) H
theorem sl_str {X : Cx} : SlR X rSlS := by
  intro pins s σ H x v vl vu lo hi sl Q I rx hs pl pu h
  obtain ⟨z, rfl, hz, q⟩ := h
  obtain ⟨t, rfl⟩ := rx
  obtain ⟨os, hos, hcs, hds⟩ := hs
  obtain ⟨l, rfl, rfl⟩ := IsPart.raw pl
  obtain ⟨u, rfl, rfl⟩ := IsPart.raw pu
  refine ⟨"str", _, F.slot_str_getitem.lookup, typeIs_str _ _ _, ?_⟩
  refine wpAny_getItem_str_slice (l := l) (u := u) (st := none) ⟨os, hos, hcs, hds⟩ rfl ?_
  have hl : (PySem.StrLaws.sliceText z (l.map (·.1)) (u.map (·.1))).length ≤ sizeLine := by
    rw [sliceText_cut]
    exact Nat.le_trans (cutS_length z _ _) hz
  rw [← sliceText_cut] at q
  unfold PySem.StrLaws.sliceText at q hl
  show Made.post (if ((1 : Int) == 1 && (Builtin.Str.strSliceIndices (l.map (·.1)) (u.map (·.1)) 1 z.length).length == z.length) = true then Made.val (.str z t)
    else Made.str ⟨((Builtin.Str.strSliceIndices (l.map (·.1)) (u.map (·.1)) 1 z.length).filterMap (z.cps[·]?)).toArray⟩) (EP X pins σ Q) s
  by_cases c : ((1 : Int) == 1 && (Builtin.Str.strSliceIndices (l.map (·.1)) (u.map (·.1)) 1 z.length).length == z.length) = true
  · rw [if_pos c] at q ⊢
    exact ⟨.str z, H, I, ⟨t, rfl⟩, q⟩
  · rw [if_neg c] at q hl ⊢
    exact ⟨hl, .str _, H, I.tok _, ⟨_, rfl⟩, q⟩
end L2
namespace Att
open PySem PySem.W PySem.Calls PyProof.Rows
theorem ints_of_wellAll {P : Params} {h : Heap} : ∀ (ns : List Int) (vs : List Value), WellAll P h vs (ns.map WData.int) → IntsAre vs ns := by
  intro ns
  induction ns with
  | nil =>
    intro vs w
    rw [List.map_nil] at w
    cases w
    exact .nil
  | cons n ns ih =>
    intro vs w
    rw [List.map_cons] at w
    cases w with
    | cons a b =>
      cases a
      exact .cons _ _ (ih _ b)
theorem script_of {l : OpenLaw} {n : Nat} (hn : l.most = some n) {P : Params} {h : Heap} {args : List WData} {vals : List Value}
    (hpre : l.row.toRowW.claim.pre args = true) (hwl : WellAll P h vals args) :
    ∃ a vs ns, vals = [Value.ref a] ∧ args = [WData.list (ns.map WData.int)] ∧ h.get? a = some { cls := .type "list", data := .seq vs.toArray } ∧ IntsAre vs ns ∧ ns.length ≤ n := by
  have hsh : WShape.hasAll [] args [.list .int] = true := (pre_splitW hpre).1
  have hc : l.pre.holds [] { args := args } = true := (pre_splitW hpre).2
  obtain ⟨d, r, rfl, h1, h2⟩ := hasAllW_cons hsh
  obtain rfl := hasAllW_nil h2
  obtain ⟨xs, rfl, h3⟩ := hasW_list h1
  obtain ⟨ns, rfl⟩ := items_int h3
  have hlen : ns.length ≤ n := by
    unfold OpenLaw.pre at hc
    have h4 : (WTm.not (.lt (.lit (.int (n : Int))) (.len (.arg 0)))).holds [] { args := [.list (ns.map .int)] } = true := by
      have h4 := (holds_andW hc).1
      rw [hn] at h4
      exact h4
    have h5 := condW_of h4 (w_not (w_lt w_lit (w_len_list (w_arg rfl))))
    rw [List.length_map] at h5
    refine Nat.le_of_not_lt fun q => ?_
    have q' : (n : Int) < ((ns.length : Nat) : Int) := by omega
    first
      | (rw [decide_eq_true q'] at h5; exact absurd h5 (by decide))
      | (simp at h5; omega)
  cases hwl with
  | cons w1 w2 =>
    cases w2
    cases w1 with
    | list ho hall => exact ⟨_, _, ns, rfl, rfl, ho, ints_of_wellAll ns _ hall, hlen⟩
theorem post_true (l : OpenLaw) (args : List WData) : l.row.toRowW.claim.post args (.bool true) args = true :=
  postW_of (r := l.row.toRowW) (X := (true == true))
    (show WShape.has [] (.bool true) .bool = true by first | rfl | decide | simp [WShape.has, WShape.arms, WShape.armsAll])
    (show (WTm.eq .res (.lit (.bool true))).value [] { args := args, res := some (.bool true), after := args } = some (.bool (true == true)) from w_eq_bool (w_res rfl) w_lit) rfl
/-- the same from a codeAny of the CALL (for a layer whose function contracts speak of calls) -/
theorem attach_call {l : OpenLaw} {n : Nat} {q : Program} {loose : List Str} {XP : (Str → Option Value) → Heap → Prop} {YP : World → Heap → Prop} {d : DefRec}
    (hn : l.most = some n) (hdf : d.params.defaults = [])
    (call : ∀ (w : World) (s₀ s₁ : Shared) (mg mb : Str → Option Value) (fa : Addr) (o : Obj) (pm cd doc : Value) (a : Addr) (vs : List Value) (ns : List Int),
      Ground q loose [] XP w s₀ mg mb s₁.heap → YP w s₁.heap →
      s₁.heap.get? fa = some o → o.data = .func (docDef d.name d.params d.body d.scope pm cd doc) → s₁.heap.CodeRec cd d.name → mg d.name = some (.ref fa) →
      s₁.heap.get? a = some { cls := .type "list", data := .seq vs.toArray } → IntsAre vs ns → ns.length ≤ n → s₁.gens = #[] →
      codeAny (model l.prog w) callerA (.call (.ref fa) ⟨[.ref a], []⟩) (fun r s' => r = .ok (.ret (.bool true)) ∧ OldK s₁.heap s'.heap ∧ s'.os = s₁.os ∧ AllBare s'.gens) s₁) :
    WalkO q loose XP YP l.row.toRowW d [] (fun f vs => PySem.call f vs) := by
  intro w s₀ s₁ mg mb G Y fa o pm cd doc dV kV ho hd hcd hD hmg hg args vals as hpre hlay hrd hwl hlo
  obtain rfl : dV = .none := Dflts.none hD hdf
  obtain rfl : kV = .none := Dflts.noKw hD
  obtain ⟨a, vs, ns, rfl, rfl, hobj, hints, hlen⟩ := script_of hn hpre hwl
  refine enter_call (codeAny_mono (call w s₀ s₁ mg mb fa o pm cd doc a vs ns G Y ho (fd_plain hd) hcd hmg hobj hints hlen hg) fun r s' hq => ?_)
  obtain ⟨rfl, h2, h3, h4⟩ := hq
  exact ⟨.inl ⟨.bool true, .bool true, [], rfl, fun _ => rfl, .bool true, post_true l _, fun _ => ⟨List.Pairwise.nil, fun _ hm => (nomatch hm)⟩⟩, h2, h3, h4⟩
section
variable {prog : Program} {w : World} {A : Around} {E : Value → Shared → Prop} {s : Shared} {K : Frag}
def noObjs (h : Heap) : Heap := { h with objs := #[] }
def ledger (h : Heap) (L d : Addr) : List (Addr × Obj) := (List.range h.objs.size).filterMap fun a => if a = L ∨ a = d then none else (h.get? a).map fun o => (a, o)
end
end Att
namespace L2
open PySem PySem.Spec PyProof.Rows
theorem vals_ints : ∀ {vs : List Value} {ns : List Int}, IntsAre vs ns → Vals (ns.map V.int) vs
  | _, _, .nil => .nil
  | _, _, .cons n t h => .cons ⟨t, rfl⟩ (vals_ints h)
/-- nothing is tracked but the script, known to the object (or it is an object of the module) -/
def Only (H : Hp) : Prop := ∀ b, H b = none ∨ ∃ o xs, H b = some (.frz o (.lst xs))
/-- THE HEAD: the law's promise, at the heap behind the top. F, the promise of the law's def, may use that base is part of the heap (so K.In base, base.Ns mainGlobals mg stand in Mod) -/
theorem law_call {P : Program} {w : World} {K : PySem.W.Frag} {mg mb : Str → Option Value} {CX : CXT} {k : Nat} {fa a : Addr} {fd : FuncData} {x : Str} {sp : Sp} {s₁ : Shared} {vs : List Value} {ns : List Int}
    (KX : K.In s₁.heap) (hns : s₁.heap.Ns mainGlobals mg) (hb : s₁.heap.Ns builtinsNs mb) (hbb : ∀ x : Str, x ≠ "__name__" → mb x = bootBuiltins x) (hlim : s₁.heap.NoLimit) (hg : s₁.gens = #[])
    (ha : s₁.heap.get? a = some { cls := .type "list", data := .seq vs.toArray }) (hi : IntsAre vs ns) (hl : ns.length ≤ sizeLine) (hr : Room k callerA)
    (F : ∀ base : Heap, K.In base → base.Ns mainGlobals mg → FnOk P w K mg base CX k fa fd [x] sp) (hbind : ∀ (s : Shared) (u : Value), BindsTo s fd ⟨[u], []⟩ [(x, u)])
    (hsp : ∀ H : Hp, Only H → SqL K H a (ns.map V.int) → sp [.ref a] H (fun v _ => v = .bl true) fun _ _ _ => False)
    (hCX : ∀ H e s', CX [] H s₁ (fun _ _ _ => False) e s' → False) :
    codeAny (model P w) callerA (.call (.ref fa) ⟨[.ref a], []⟩) (fun r s' => r = .ok (.ret (.bool true)) ∧ OldK s₁.heap s'.heap ∧ s'.os = s₁.os ∧ AllBare s'.gens) s₁ := by
  have rv := vals_ints hi
  have lenV := hi.length
  -- from an abstract heap in which nothing but the script may be tracked
  have core : ∀ H : Hp, Only H → SqL K H a (ns.map V.int) → HOk P w H s₁.heap → (∀ b, H b ≠ none → b = a) → (H a ≠ none → K.lookup a = none) →
      codeAny (model P w) callerA (.call (.ref fa) ⟨[.ref a], []⟩) (fun r s' => r = .ok (.ret (.bool true)) ∧ OldK s₁.heap s'.heap ∧ s'.os = s₁.os ∧ AllBare s'.gens) s₁ := by
    intro H hO hS hok hA hK
    have base_of : ∀ {b : Addr} {o : Obj}, s₁.heap.get? b = some o → H b = none → (hidT s₁.heap H).get? b = some o := fun e n => hidT_get e n
    have noA : ∀ {b : Addr} {o : Obj} {es : Array DictEntry} {ep : Nat}, s₁.heap.get? b = some o → o.data = .dict es ep → H b = none := fun {b o es ep} e d => by
      cases q : H b with
      | none => rfl
      | some u =>
        have e' : b = a := hA b (by rw [q]; simp)
        subst e'
        rw [ha] at e; cases e
        have d' : Data.seq vs.toArray _ = Data.dict es ep := d
        cases d'
    have nsK : ∀ {b : Addr} {m : Str → Option Value}, s₁.heap.Ns b m → (hidT s₁.heap H).Ns b m := fun {b m} ⟨o, es, ep, e, d, r⟩ => ⟨o, es, ep, base_of e (noA e d), d, r⟩
    have hKb : K.In (hidT s₁.heap H) := fun b o e => base_of (KX b o e) (by
      cases q : H b with
      | none => rfl
      | some u =>
        have e' : b = a := hA b (by rw [q]; simp)
        subst e'
        rw [hK (by rw [q]; simp)] at e; cases e)
    have hM : Mod K mg (hidT s₁.heap H) := ⟨hKb, nsK hns, ⟨mb, nsK hb, hbb⟩, let ⟨mc, h1, h2⟩ := hlim; ⟨mc, nsK h1, h2⟩⟩
    have e0 : Env0 P w K mg (hidT s₁.heap H) callerA [] s₁ H := ⟨rfl, hM, fun b o e => of_hidT e, Nat.le_of_eq (hidT_size _ _), trivial, fun b hb => absurd (show b ∈ ([] : List Addr) from hb) (by simp), hok, .of_eq hg⟩
    refine codeAny_mono ((F _ hKb (nsK hns)).run callerA [] s₁ H ⟨[.ref a], []⟩ [.ref a] [.ref a] _ _ hr e0 (hbind s₁ (.ref a)) (.cons rfl .nil) (hsp H hO hS)) fun r s' h => ?_
    cases r with
    | error e => exact (hCX H e s' h).elim
    | ok fl =>
      cases fl with
      | next => exact False.elim h
      | brk => exact False.elim h
      | cont => exact False.elim h
      | ret u =>
        obtain ⟨v, H', os, bare, un, hok', r', q⟩ := h
        have q' : v = .bl true := q
        subst q'
        obtain rfl : u = Value.bool true := r'
        refine ⟨rfl, OldK.of_keep fun b o e => ?_, os, bare⟩
        cases q : H b with
        | none => exact un.keep b o e q (by intro z; exact absurd (show b ∈ ([] : List Addr) from z) (by simp)) (by simp)
        | some u =>
          rcases hO b with z | ⟨ob, xs, z⟩
          · rw [q] at z; cases z
          · have z2 := un.frzs b ob _ z
            obtain ⟨e1, _⟩ := hok b _ z
            obtain ⟨e2, _⟩ := hok' b _ z2
            rw [e] at e1; cases e1
            exact e2
  cases hk : K.lookup a with
  | some o =>
    -- the script is one of the module's own objects
    have e := KX a o hk
    rw [ha] at e
    cases e
    refine core (fun _ => none) (fun _ => .inl rfl) (.inr ⟨_, vs.toArray, _, hk, rfl, rfl, rfl, by rw [List.size_toArray, lenV]; exact hl, by simpa using rv⟩) (fun b u z => by have z' : (none : Option HO) = some u := z; cases z') (fun b z => absurd rfl z) fun z => absurd rfl z
  | none =>
    refine core (fun b => if b = a then some (.frz { cls := .type "list", data := .seq vs.toArray } (.lst (ns.map V.int))) else none) (fun b => ?_) (.inl (.inr ⟨{ cls := .type "list", data := .seq vs.toArray }, if_pos rfl⟩)) (fun b u z => ?_) (fun b z => ?_) fun _ => hk
    · by_cases hb : b = a
      · exact .inr ⟨_, _, if_pos hb⟩
      · exact .inl (if_neg hb)
    · by_cases hb : b = a
      · have z' := (if_pos hb).symm.trans z
        cases z'
        subst hb
        exact ⟨ha, by rw [List.length_map]; exact hl, vs, _, rv, ha⟩
      · have z' := (if_neg hb).symm.trans z
        cases z'
    · by_cases hb : b = a
      · exact hb
      · exact absurd (if_neg hb) z
end L2
namespace L2
open PySem PySem.Spec PyProof.Rows
abbrev KOf {K : PySem.W.Frag} {h : Heap} (_ : K.In h) : PySem.W.Frag := K
/-- the goal that k_head leaves (case hc), from the law's promise. F gives the function object fd (K's own) once, then the promise over every base -/
theorem walk_of {l : PySem.W.OpenLaw} {n k : Nat} {q : Program} {loose : List Str} {XP : (Str → Option Value) → Heap → Prop} {YP : World → Heap → Prop} {d : DefRec} {K : Params → PySem.W.Frag} {CX : World → CXT} {sp : World → Sp} {x : Str}
    (hn : l.most = some n) (hn2 : n ≤ sizeLine) (hdf : d.params.defaults = []) (hr : Room k callerA)
    (hY : ∀ (w : World) (h : Heap), YP w h → (K w.params).In h)
    (F : ∀ (w : World) (mg : Str → Option Value) (fa : Addr) (h : Heap), (K w.params).In h → h.Ns mainGlobals mg → mg d.name = some (.ref fa) →
      ∃ fd : FuncData, (∀ (s : Shared) (u : Value), BindsTo s fd ⟨[u], []⟩ [(x, u)]) ∧
        ∀ base : Heap, (K w.params).In base → base.Ns mainGlobals mg → FnOk l.prog w (K w.params) mg base (CX w) k fa fd [x] (sp w))
    (hsp : ∀ (w : World) (H : Hp) (a : Addr) (ns : List Int), ns.length ≤ n → Only H → SqL (K w.params) H a (ns.map V.int) → sp w [.ref a] H (fun v _ => v = .bl true) fun _ _ _ => False)
    (hCX : ∀ (w : World) (H : Hp) (s : Shared) (e : Value) (s' : Shared), CX w [] H s (fun _ _ _ => False) e s' → False) :
    PySem.W.WalkO q loose XP YP l.row.toRowW d [] (fun f vs => PySem.call f vs) := by
  refine Att.attach_call hn hdf fun w s₀ s₁ mg mb fa o pm cd doc a vs ns G Y ho hd hcd hmg hobj hints hlen hg => ?_
  have KX := hY w _ Y
  obtain ⟨fd, hb, hF⟩ := F w mg fa _ KX G.T.g hmg
  exact law_call KX G.T.g G.T.b G.T.builtins G.T.nolimit hg hobj hints (Nat.le_trans hlen hn2) hr hF hb (fun H hO hS => hsp w H a ns hlen hO hS) fun H e s' => hCX w H s₁ e s'
end L2
/- THE LAST THEOREM (shape; LID, My.* are yours):
   My.Adr: a structure of the addresses that your layer names (classes, functions); My.Txt K t: a structure (Prop) of the equations over K;
   My.txt_mk : {K} {implicit addresses ..} (e1 : nsIn K mainGlobals "law" = some (some (.ref f))) (e2 : K.lookup f = some ⟨oc, od, .func (fnOf "law" "law" params body scope dV kV doc pm an cdv ct), sl⟩) (e3 : codeIn K cdv "law" = true) .. : ∃ t, My.Txt K t
set_option maxRecDepth 100000 in
set_option maxHeartbeats 0 in
theorem PySem.Challenge.cw_LID_holds : PySem.Challenge.rw_LID.Holds := by
  w_on; o_law; k_head; (case hw => w_witness2)
  k_fill
  refine L2.walk_of (l := PySem.Challenge.rw_LID) (n := 63) (k := 40) (x := "script") (CX := fun w => ..) (sp := fun _ => My.sp_law) rfl (by decide) rfl ⟨rfl, by decide, by decide⟩ (fun w h Y => PySem.W.kIn_of Y) ?F ?S ?C
  case F =>
    intro w mg fa h KX G hmg
    have T : ∃ t, My.Txt (L2.KOf KX) t := by
      dsimp only [L2.KOf]                          -- K must stand as «<heap const> w.params» for k_is
      refine' My.txt_mk ?e1 ?e2 ?e3 ..
      (case e1 => PySem.W.k_is)                    -- in the order: a name -> its address -> its object -> its parts
      (case e2 => PySem.W.k_is)
      ..
    obtain ⟨t, T⟩ := T
    have e0 := hmg.symm.trans (PySem.W.mg_of KX G T.law)
    cases e0                                       -- fa is the law's own address
    exact ⟨_, fun s u => .of_eq rfl, fun base kb nb => My.law_fn T kb nb⟩     -- if «.of_eq rfl» comes too early: refine' ⟨_, ?b, fun base kb nb => My.law_fn T kb nb⟩; exact fun s u => .of_eq rfl
  case S => exact fun w H a ns hl hO hS => ..
  case C => exact ..
(the tactic k_is has no namespace: write k_is) -/
namespace L2
open PySem PySem.Spec PyProof.Rows
/-- the j-th statement of a class's body -/
def inClass (s : Stmt) (j : Nat) : Stmt := match s with
  | .ClassDef _ _ _ body _ _ _ _ _ _ _ => body.getD j (.Pass ⟨0, 0, 0, 0⟩)
  | _ => .Pass ⟨0, 0, 0, 0⟩
def defArgs (s : Stmt) : Arguments := match s with
  | .FunctionDef _ a _ _ _ _ _ _ _ _ => a
  | _ => { posonlyargs := [], args := [], vararg := none, kwonlyargs := [], kw_defaults := [], kwarg := none, defaults := [] }
def defBody (s : Stmt) : List Stmt := match s with
  | .FunctionDef _ _ b _ _ _ _ _ _ _ => b
  | _ => []
def defScope (s : Stmt) : Scope := match s with
  | .FunctionDef _ _ _ _ _ _ sc _ _ _ => sc
  | _ => { kind := .function, names := [], isGenerator := false, isCoroutine := false }
abbrev CX0 : CXT := fun _ _ _ _ _ _ => False
abbrev E0 : XK := fun _ _ _ => False
theorem pass0 {X : Cx} : Passes CX0 X E0 := fun _ _ _ _ _ _ _ h => h.elim
structure Fun (K : PySem.W.Frag) (x qual : Str) (st : Stmt) (f : Addr) (fd : FuncData) : Prop where
  ex : ∃ (oc : Value) (od : Option Addr) (kV doc pm : Value) (an : Option Addr) (cdv ct : Value) (osl : Array (Option Value)),
    fd = PySem.W.fnOf x qual (defArgs st) (defBody st) (defScope st) .none kV doc pm an cdv ct ∧ K.lookup f = some ⟨oc, od, .func fd, osl⟩ ∧ PySem.W.codeIn K cdv qual = true
  kp : PySem.W.keepIn K (.ref f) = true
section
variable {P : Program} {w : World} {K : PySem.W.Frag} {mg : Str → Option Value} {base : Heap}
/-- THE RULE for a def: its body as a term of rules, and the reading of that term -/
theorem Fun.ok {x qual : Str} {st : Stmt} {f : Addr} {fd : FuncData} {N ps : List Str} {k : Nat} {sp : Sp} (F : Fun K x qual st f fd) (S : FnScope N ps (defScope st)) (len : ∀ vs H Q E, sp vs H Q E → vs.length = ps.length)
    (hbody : ∀ (cdv : Value) (A : Around) (outer : List Env) (s : Shared) (H : Hp) (vs : List V) (Q : VK) (E : XK), Room k (A.deeper (envOfC qual (defScope st) s.heap.objs.size f cdv)) → sp vs H Q E →
      ∃ t, PSs (cxOf CX0 P w K mg base N qual (defScope st) f cdv A outer s H E).nox (defBody st) t ∧ t { nx := fun _ H' => Q .non H', rt := Q } (start N vs) H) : FnOk P w K mg base CX0 (k + 1) f fd ps sp := by
  obtain ⟨oc, od, kV, doc, pm, an, cdv, ct, osl, rfl, lk, hcd⟩ := F.ex
  refine fn_of lk hcd S len fun A outer s H vs Q E hr hsp => ?_
  obtain ⟨t, h, q⟩ := hbody cdv A outer s H vs Q E hr hsp
  exact ⟨t, h.nox, q⟩
/-- how its arguments bind (no defaults): h is «fun _ _ _ _ _ _ us hl => match us, hl with | [_, _], _ => rfl», one _ a parameter -/
theorem Fun.binds {x qual : Str} {st : Stmt} {f : Addr} {fd : FuncData} {ps : List Str} (F : Fun K x qual st f fd)
    (h : ∀ (kV doc pm : Value) (an : Option Addr) (cdv ct : Value) (us : List Value), us.length = ps.length → bindArgs (PySem.W.fnOf x qual (defArgs st) (defBody st) (defScope st) .none kV doc pm an cdv ct) ⟨us, []⟩ = pure (ps.zip us)) : Binds K fd ps [] := by
  obtain ⟨oc, od, kV, doc, pm, an, cdv, ct, osl, rfl, lk, hcd⟩ := F.ex
  exact .all (h kV doc pm an cdv ct)
theorem fun_mk {x qual : Str} {st : Stmt} {f : Addr} {oc : Value} {od an : Option Addr} {osl : Array (Option Value)} {kV doc pm cdv ct : Value} (l : K.lookup f = some ⟨oc, od, .func (PySem.W.fnOf x qual (defArgs st) (defBody st) (defScope st) .none kV doc pm an cdv ct), osl⟩)
    (c : PySem.W.codeIn K cdv qual = true) (k : PySem.W.keepIn K (.ref f) = true) : Fun K x qual st f (PySem.W.fnOf x qual (defArgs st) (defBody st) (defScope st) .none kV doc pm an cdv ct) := ⟨⟨oc, od, kV, doc, pm, an, cdv, ct, osl, rfl, l, c⟩, k⟩
end
theorem hu_of {A : Around} {k : Nat} (hr : Room k A) : A.units + 1 < cLine := Nat.lt_of_le_of_lt (Nat.add_le_add_left (by decide : 1 ≤ 64) _) hr.units
theorem small1000 {n : Nat} (h : n ≤ 1000) : n < sizeLine := Nat.lt_of_le_of_lt h (by decide)
section
variable {X : Cx}
theorem pv (i : Nat) {x : Str} {pos : Pos} (hN : X.N[i]? = some x := by rfl) (hv : Vis X.env.scope x := by first | exact Or.inl rfl | exact Or.inr (Or.inl rfl) | exact Or.inr (Or.inr rfl)) (hd : (x == ("__debug__" : Str)) = false := by decide)
    (hcd : (x == ("__classdict__" : Str)) = false := by decide) : PE X (.Name x pos) (tVar i) := pe_var hN hv hd hcd
end
theorem iteF {A B : Prop} (h : B) : if false = true then A else B := by
  rw [if_neg Bool.false_ne_true]
  exact h
theorem iteT {A B : Prop} (h : A) : if true = true then A else B := by
  rw [if_pos rfl]
  exact h
theorem ite2 {c A B : Prop} [Decidable c] (h1 : c → A) (h2 : ¬ c → B) : if c then A else B := by
  by_cases h : c
  · rw [if_pos h]
    exact h1 h
  · rw [if_neg h]
    exact h2 h
/-- all that was tracked is as it was -/
def Same (H H' : Hp) : Prop := ∀ b o, H b = some o → H' b = some o
theorem Same.refl (H : Hp) : Same H H := fun _ _ h => h
theorem Same.trans {H H1 H2 : Hp} (a : Same H H1) (b : Same H1 H2) : Same H H2 := fun c o h => b c o (a c o h)
theorem Same.free {H H' : Hp} (e : Same H H') {l : Addr} (h : H' l = Option.none) : H l = Option.none := by
  cases q : H l with
  | none => rfl
  | some o =>
    rw [e l o q] at h
    cases h
theorem Same.seq {K : PySem.W.Frag} {H H' : Hp} {a : Addr} {xs : List V} (e : Same H H') (h : SqL K H a xs) : SqL K H' a xs := by
  rcases h with (h | ⟨o, h⟩) | h
  · exact .inl (.inl (e _ _ h))
  · exact .inl (.inr ⟨o, e _ _ h⟩)
  · exact .inr h
section
variable {κ : Type} [DecidableEq κ]
end
end L2
set_option Elab.async false
set_option linter.all false
set_option maxRecDepth 100000
namespace L2
open PySem PySem.Spec PyProof.Rows
abbrev EnO (h : Heap) (e it : Addr) (i : Int) (f0 f1 old : Value) : Prop :=
  h.get? e = some { cls := .type "enumerate", dict := none, data := .fields #[f0, f1, .ref it, rawInt i, .none, old], slots := #[] }
/-- the enumerate between two items: nothing handed out, or the last pair still stands -/
def EnS (h : Heap) (e it : Addr) (i : Int) : Prop :=
  (∃ old, EnO h e it i .none (.bool false) old) ∨ ∃ (a : Addr) (f : Bool) (old : Value) (oa : Obj), EnO h e it i (rawInt a) (.bool f) old ∧ h.get? a = some oa ∧ a ≠ e ∧ a ≠ it
section
variable {prog : Program} {w : World} {A : Around} {E : Value → Shared → Prop} {s : Shared}
theorem EnS.keep {h h' : Heap} {e it S : Addr} {i : Int} (x : EnS h e it i) (hk : ∀ b o, b ≠ S → h.get? b = some o → h'.get? b = some o) (he : e ≠ S)
    (hS : ∀ o, h.get? S = some o → ∃ o', h'.get? S = some o') : EnS h' e it i := by
  rcases x with ⟨old, x⟩ | ⟨a, f, old, oa, x, ha, h1, h2⟩
  · exact .inl ⟨old, hk _ _ he x⟩
  · by_cases z : a = S
    · subst z
      obtain ⟨o', q⟩ := hS _ ha
      exact .inr ⟨a, f, old, o', hk _ _ he x, q, h1, h2⟩
    · exact .inr ⟨a, f, old, oa, hk _ _ he x, hk _ _ z ha, h1, h2⟩
/-- the pairs made so far -/
structure EnG (its : Array Value) (lo : Addr) (h : Heap) (as : List Addr) : Prop where
  above : ∀ a ∈ as, lo < a
  pairs : ∀ (j : Nat) (a : Addr), as[j]? = some a → ∃ (t : Tok) (x : Value), its[j]? = some x ∧ h.get? a = some { cls := .type "tuple", data := .seq #[.int j t, x] }
theorem EnS.ty {e it : Addr} {i : Int} (he : EnS s.heap e it i) : s.TypeIs (.ref e) "enumerate" := by rcases he with ⟨_, he⟩ | ⟨_, _, _, _, he, _⟩ <;> exact ⟨_, he, rfl⟩
end
end L2
set_option Elab.async false
set_option linter.all false
set_option maxRecDepth 100000
namespace L2
open PySem PySem.Spec PyProof.Rows
section
variable {X : Cx} {pins : List (Addr × Obj)} {σ : St} {H H' : Hp} {s : Shared} {h' : Heap}
/-- the heap H with what the list names laid over it -/
def lay (H : Hp) : List (Addr × HO) → Hp
  | [] => H
  | (a, o) :: r => upd (lay H r) a o
end
def tLE (K : PySem.W.Frag) (ta : TA) : TE := fun σ H Q => ta σ H fun vs H1 => ∃ (a : Addr) (xs : List V), vs = [.ref a] ∧ SqL K H1 a xs ∧ ∀ (l : Addr) (ts : List Addr) (H' : Hp), H1 l = none → (∀ t ∈ ts, H1 t = none) → ts.length = xs.length →
  (∀ b o, H1 b = some o → H' b = some o) → H' l = some (.lst (ts.map V.ref)) → (∀ (j : Nat) (t : Addr), ts[j]? = some t → ∃ x, xs[j]? = some x ∧ H' t = some (.tup [.int j, x])) → Q (.ref l) H'
end L2
set_option Elab.async false
set_option linter.all false
set_option maxRecDepth 100000
namespace L2
open PySem PySem.Spec PyProof.Rows
def revS (z : Str) : Str := ⟨z.cps.toList.reverse.toArray⟩
def tRevS (te : TE) : TE := fun σ H Q => te σ H fun x H1 => ∃ z, x = .str z ∧ z.length ≤ sizeLine ∧ Q (.str (revS z)) H1
section
variable {X : Cx} {e : Expr} {te : TE}
def mulS (z : Str) (n : Int) : Str := ⟨(List.replicate n.toNat z.cps.toList).flatten.toArray⟩
theorem mulS_eq (z : Str) (n : Int) : Txt.mul z n = mulS z n := by
  unfold Txt.mul mulS
  by_cases h : n < 1
  · rw [if_pos h]
    have e : n.toNat = 0 := by omega
    rw [e]; rfl
  · rw [if_neg h]
    by_cases h2 : (n == 1 || z.length == 0) = true
    · rw [if_pos h2]
      rcases Bool.or_eq_true_iff.mp h2 with h3 | h3
      · have e : n = 1 := by simpa using h3
        subst e
        show z = ⟨(z.cps.toList ++ []).toArray⟩
        rw [List.append_nil]
      · have e : z.cps = #[] := by
          have : z.cps.size = 0 := by have h4 : z.length = 0 := by simpa using h3
                                      exact h4
          exact Array.eq_empty_of_size_eq_zero this
        have e2 : ∀ k : Nat, (List.replicate k ([] : List Nat)).flatten = [] := fun k => by induction k with
          | zero => rfl
          | succ k ih => rw [List.replicate_succ, List.flatten_cons, ih]; rfl
        cases z with
        | mk c =>
          cases e
          show _ = Str.mk (List.replicate n.toNat []).flatten.toArray
          rw [e2]
    · rw [if_neg h2]
      congr 1
      have key : ∀ (k : Nat) (acc : Array Nat), (List.replicate k z.cps).foldl (· ++ ·) acc = acc ++ (List.replicate k z.cps.toList).flatten.toArray := by
        intro k
        induction k with
        | zero => intro acc; simp
        | succ k ih =>
          intro acc
          rw [List.replicate_succ, List.foldl_cons, ih, List.replicate_succ, List.flatten_cons]
          rw [Array.append_assoc]
          congr 1
          exact Array.toList_inj.mp (by simp)
      rw [key]; simp
def rMulS : R2 := fun x y H Q => ∃ z n, x = .str z ∧ y = .int n ∧ n < 1000000 ∧ -1000000 < n ∧ z.length * n.toNat ≤ 1000000 ∧ Q (.str (mulS z n)) H
theorem op_mulS : OpR X (binaryOp .Mult) rMulS := by
  intro pins s σ H x y v u Q I rx ry h
  obtain ⟨z, n, rfl, rfl, h1, h1', h2, q⟩ := h
  obtain ⟨t, rfl⟩ := rx
  obtain ⟨t', rfl⟩ := ry
  refine PySem.SB.mul ⟨?_, fun hn _ => ?_, fun _ _ => ?_⟩ fun t' k => ⟨.str _, H, I.tok _, ⟨_, rfl⟩, by rw [mulS_eq]; exact q⟩
  · simp only [Bool.or_eq_false_iff, decide_eq_false_iff_not]
    exact ⟨by omega, by omega⟩
  · intro hc
    have hn0 : 0 < n := by omega
    have : (2 ^ 63 - 1 : Int) / n < z.length := hc
    have h3 : (2 ^ 63 - 1 : Int) < z.length * n := by
      have := (Int.ediv_lt_iff_lt_mul hn0).mp this
      exact this
    have h4 : ((z.length * n.toNat : Nat) : Int) = z.length * n := by
      rw [Int.natCast_mul, Int.toNat_of_nonneg (by omega)]
    have h5 : ((z.length * n.toNat : Nat) : Int) ≤ 1000000 := Int.ofNat_le.mpr h2
    rw [h4] at h5
    have : (2 ^ 63 - 1 : Int) = 9223372036854775807 := by decide
    omega
  · unfold Builtin.Str.tooLong
    simp only [decide_eq_false_iff_not]
    rw [sizeLine_eq]
    omega
end
end L2
set_option Elab.async false
set_option linter.all false
set_option maxRecDepth 100000
namespace L2
open PySem PySem.Spec PyProof.Rows
inductive IsI (K : PySem.W.Frag) (H : Hp) : V → String → Bool → Prop
  | i_int i : IsI K H (.int i) "int" true
  | i_bool i : IsI K H (.int i) "bool" false
  | i_str i : IsI K H (.int i) "str" false
  | i_list i : IsI K H (.int i) "list" false
  | i_tuple i : IsI K H (.int i) "tuple" false
  | i_dict i : IsI K H (.int i) "dict" false
  | b_int i : IsI K H (.bl i) "int" true
  | b_bool i : IsI K H (.bl i) "bool" true
  | b_str i : IsI K H (.bl i) "str" false
  | b_list i : IsI K H (.bl i) "list" false
  | b_tuple i : IsI K H (.bl i) "tuple" false
  | b_dict i : IsI K H (.bl i) "dict" false
  | s_int i : IsI K H (.str i) "int" false
  | s_bool i : IsI K H (.str i) "bool" false
  | s_str i : IsI K H (.str i) "str" true
  | s_list i : IsI K H (.str i) "list" false
  | s_tuple i : IsI K H (.str i) "tuple" false
  | s_dict i : IsI K H (.str i) "dict" false
  | n_int : IsI K H .non "int" false
  | n_bool : IsI K H .non "bool" false
  | n_str : IsI K H .non "str" false
  | n_list : IsI K H .non "list" false
  | n_tuple : IsI K H .non "tuple" false
  | n_dict : IsI K H .non "dict" false
  | lr_int a xs (h : SqL K H a xs) : IsI K H (.ref a) "int" false
  | lr_bool a xs (h : SqL K H a xs) : IsI K H (.ref a) "bool" false
  | lr_str a xs (h : SqL K H a xs) : IsI K H (.ref a) "str" false
  | lr_list a xs (h : SqL K H a xs) : IsI K H (.ref a) "list" true
  | lr_tuple a xs (h : SqL K H a xs) : IsI K H (.ref a) "tuple" false
  | lr_dict a xs (h : SqL K H a xs) : IsI K H (.ref a) "dict" false
  | tr_int a xs (h : SqT K H a xs) : IsI K H (.ref a) "int" false
  | tr_bool a xs (h : SqT K H a xs) : IsI K H (.ref a) "bool" false
  | tr_str a xs (h : SqT K H a xs) : IsI K H (.ref a) "str" false
  | tr_list a xs (h : SqT K H a xs) : IsI K H (.ref a) "list" false
  | tr_tuple a xs (h : SqT K H a xs) : IsI K H (.ref a) "tuple" true
  | tr_dict a xs (h : SqT K H a xs) : IsI K H (.ref a) "dict" false
  | dr_int a kvs (h : Rd H a (.dK kvs)) : IsI K H (.ref a) "int" false
  | dr_bool a kvs (h : Rd H a (.dK kvs)) : IsI K H (.ref a) "bool" false
  | dr_str a kvs (h : Rd H a (.dK kvs)) : IsI K H (.ref a) "str" false
  | dr_list a kvs (h : Rd H a (.dK kvs)) : IsI K H (.ref a) "list" false
  | dr_tuple a kvs (h : Rd H a (.dK kvs)) : IsI K H (.ref a) "tuple" false
  | dr_dict a kvs (h : Rd H a (.dK kvs)) : IsI K H (.ref a) "dict" true
def rIsi (K : PySem.W.Frag) : List V → Hp → VK → Prop := fun xs H Q => ∃ x T b, xs = [x, .ty T] ∧ IsI K H x T b ∧ Q (.bl b) H
theorem cr_isi {X : Cx} : CallR X (.builtin "isinstance") (rIsi X.K) := by
  intro pins s σ H xs us Q I r h
  obtain ⟨x, T, b, rfl, k, q⟩ := h
  obtain ⟨u, w', rfl, r1, r2⟩ := vals2 r
  cases r2
  cases k with
  | i_int => obtain ⟨t, rfl⟩ := r1; exact IsiPair.int_int ⟨.bl true, H, I, rfl, q⟩
  | i_bool => obtain ⟨t, rfl⟩ := r1; exact IsiPair.int_bool ⟨.bl false, H, I.tok _, rfl, q⟩
  | i_str => obtain ⟨t, rfl⟩ := r1; exact IsiPair.int_str ⟨.bl false, H, I.tok _, rfl, q⟩
  | i_list => obtain ⟨t, rfl⟩ := r1; exact IsiPair.int_list ⟨.bl false, H, I.tok _, rfl, q⟩
  | i_tuple => obtain ⟨t, rfl⟩ := r1; exact IsiPair.int_tuple ⟨.bl false, H, I.tok _, rfl, q⟩
  | i_dict => obtain ⟨t, rfl⟩ := r1; exact IsiPair.int_dict ⟨.bl false, H, I.tok _, rfl, q⟩
  | b_int => cases r1; exact IsiPair.bool_int ⟨.bl true, H, I, rfl, q⟩
  | b_bool => cases r1; exact IsiPair.bool_bool ⟨.bl true, H, I, rfl, q⟩
  | b_str => cases r1; exact IsiPair.bool_str ⟨.bl false, H, I.tok _, rfl, q⟩
  | b_list => cases r1; exact IsiPair.bool_list ⟨.bl false, H, I.tok _, rfl, q⟩
  | b_tuple => cases r1; exact IsiPair.bool_tuple ⟨.bl false, H, I.tok _, rfl, q⟩
  | b_dict => cases r1; exact IsiPair.bool_dict ⟨.bl false, H, I.tok _, rfl, q⟩
  | s_int => obtain ⟨t, rfl⟩ := r1; exact IsiPair.str_int ⟨.bl false, H, I.tok _, rfl, q⟩
  | s_bool => obtain ⟨t, rfl⟩ := r1; exact IsiPair.str_bool ⟨.bl false, H, I.tok _, rfl, q⟩
  | s_str => obtain ⟨t, rfl⟩ := r1; exact IsiPair.str_str ⟨.bl true, H, I, rfl, q⟩
  | s_list => obtain ⟨t, rfl⟩ := r1; exact IsiPair.str_list ⟨.bl false, H, I.tok _, rfl, q⟩
  | s_tuple => obtain ⟨t, rfl⟩ := r1; exact IsiPair.str_tuple ⟨.bl false, H, I.tok _, rfl, q⟩
  | s_dict => obtain ⟨t, rfl⟩ := r1; exact IsiPair.str_dict ⟨.bl false, H, I.tok _, rfl, q⟩
  | n_int => cases r1; exact IsiPair.NoneType_int ⟨.bl false, H, I.tok _, rfl, q⟩
  | n_bool => cases r1; exact IsiPair.NoneType_bool ⟨.bl false, H, I.tok _, rfl, q⟩
  | n_str => cases r1; exact IsiPair.NoneType_str ⟨.bl false, H, I.tok _, rfl, q⟩
  | n_list => cases r1; exact IsiPair.NoneType_list ⟨.bl false, H, I.tok _, rfl, q⟩
  | n_tuple => cases r1; exact IsiPair.NoneType_tuple ⟨.bl false, H, I.tok _, rfl, q⟩
  | n_dict => cases r1; exact IsiPair.NoneType_dict ⟨.bl false, H, I.tok _, rfl, q⟩
  | lr_int a xs h => cases r1; obtain ⟨its, _, pl, _⟩ := I.list h; obtain ⟨o, hx, hc, _⟩ := pl.isList; exact IsiPair.list_int hx hc ⟨.bl false, H, I.tok _, rfl, q⟩
  | lr_bool a xs h => cases r1; obtain ⟨its, _, pl, _⟩ := I.list h; obtain ⟨o, hx, hc, _⟩ := pl.isList; exact IsiPair.list_bool hx hc ⟨.bl false, H, I.tok _, rfl, q⟩
  | lr_str a xs h => cases r1; obtain ⟨its, _, pl, _⟩ := I.list h; obtain ⟨o, hx, hc, _⟩ := pl.isList; exact IsiPair.list_str hx hc ⟨.bl false, H, I.tok _, rfl, q⟩
  | lr_list a xs h => cases r1; obtain ⟨its, _, pl, _⟩ := I.list h; obtain ⟨o, hx, hc, _⟩ := pl.isList; exact IsiPair.list_list hx hc ⟨.bl true, H, I, rfl, q⟩
  | lr_tuple a xs h => cases r1; obtain ⟨its, _, pl, _⟩ := I.list h; obtain ⟨o, hx, hc, _⟩ := pl.isList; exact IsiPair.list_tuple hx hc ⟨.bl false, H, I.tok _, rfl, q⟩
  | lr_dict a xs h => cases r1; obtain ⟨its, _, pl, _⟩ := I.list h; obtain ⟨o, hx, hc, _⟩ := pl.isList; exact IsiPair.list_dict hx hc ⟨.bl false, H, I.tok _, rfl, q⟩
  | tr_int a xs h => cases r1; obtain ⟨its, _, ⟨o, hx, hc, _⟩, _⟩ := I.tuple h; exact IsiPair.tuple_int hx hc ⟨.bl false, H, I.tok _, rfl, q⟩
  | tr_bool a xs h => cases r1; obtain ⟨its, _, ⟨o, hx, hc, _⟩, _⟩ := I.tuple h; exact IsiPair.tuple_bool hx hc ⟨.bl false, H, I.tok _, rfl, q⟩
  | tr_str a xs h => cases r1; obtain ⟨its, _, ⟨o, hx, hc, _⟩, _⟩ := I.tuple h; exact IsiPair.tuple_str hx hc ⟨.bl false, H, I.tok _, rfl, q⟩
  | tr_list a xs h => cases r1; obtain ⟨its, _, ⟨o, hx, hc, _⟩, _⟩ := I.tuple h; exact IsiPair.tuple_list hx hc ⟨.bl false, H, I.tok _, rfl, q⟩
  | tr_tuple a xs h => cases r1; obtain ⟨its, _, ⟨o, hx, hc, _⟩, _⟩ := I.tuple h; exact IsiPair.tuple_tuple hx hc ⟨.bl true, H, I, rfl, q⟩
  | tr_dict a xs h => cases r1; obtain ⟨its, _, ⟨o, hx, hc, _⟩, _⟩ := I.tuple h; exact IsiPair.tuple_dict hx hc ⟨.bl false, H, I.tok _, rfl, q⟩
  | dr_int a kvs h => cases r1; obtain ⟨_, _, _, _, o, _, _, hx, ex, _⟩ := h.ok I.hok; exact IsiPair.dict_int hx ex.1 ⟨.bl false, H, I.tok _, rfl, q⟩
  | dr_bool a kvs h => cases r1; obtain ⟨_, _, _, _, o, _, _, hx, ex, _⟩ := h.ok I.hok; exact IsiPair.dict_bool hx ex.1 ⟨.bl false, H, I.tok _, rfl, q⟩
  | dr_str a kvs h => cases r1; obtain ⟨_, _, _, _, o, _, _, hx, ex, _⟩ := h.ok I.hok; exact IsiPair.dict_str hx ex.1 ⟨.bl false, H, I.tok _, rfl, q⟩
  | dr_list a kvs h => cases r1; obtain ⟨_, _, _, _, o, _, _, hx, ex, _⟩ := h.ok I.hok; exact IsiPair.dict_list hx ex.1 ⟨.bl false, H, I.tok _, rfl, q⟩
  | dr_tuple a kvs h => cases r1; obtain ⟨_, _, _, _, o, _, _, hx, ex, _⟩ := h.ok I.hok; exact IsiPair.dict_tuple hx ex.1 ⟨.bl false, H, I.tok _, rfl, q⟩
  | dr_dict a kvs h => cases r1; obtain ⟨_, _, _, _, o, _, _, hx, ex, _⟩ := h.ok I.hok; exact IsiPair.dict_dict hx ex.1 ⟨.bl true, H, I, rfl, q⟩
end L2
set_option Elab.async false
set_option linter.all false
set_option maxRecDepth 100000
namespace L2
open PySem PySem.Spec PyProof.Rows
def IteS (x : Str) : It :=
  ⟨fun i _ => i < x.cps.size, fun i H v H' => ∃ T c, v = .ref T ∧ H T = none ∧ x.cps[i]? = some c ∧ H' = upd H T (.tup [.int (i : Nat), .str ⟨#[c]⟩]), fun i _ => x.cps.size ≤ i⟩
def drawsS {prog : Program} {w : World} {A : Around} (hh : A.handled = none) (it : Addr) (x : Str) (t : Tok) (ty : String) (hty : ty = "str_ascii_iterator" ∨ ty = "str_iterator") :
    Draws prog w A it [it] x.cps.size (fun i v => ∃ c u, x.cps[i]? = some c ∧ v = .str ⟨#[c]⟩ u) (fun i h => h.IsStrIter it ty x t i) := by
  rcases hty with e | e
  · rw [e]; exact Draws.strAscii hh it x t
  · rw [e]; exact Draws.strWide hh it x t
theorem strIterType_of (x : Str) : strIterType x = "str_ascii_iterator" ∨ strIterType x = "str_iterator" := by
  unfold strIterType; split
  · exact .inl rfl
  · exact .inr rfl
def iEnumS (ta : TA) : TI := fun σ H R => ta σ H fun vs H1 => ∃ x, vs = [.str x] ∧ R (IteS x) H1
end L2
set_option Elab.async false
set_option linter.all false
set_option maxRecDepth 100000
namespace L2
open PySem PySem.Spec PyProof.Rows
section
variable {prog : Program} {w : World} {A : Around} {E : Value → Shared → Prop} {s : Shared}
def rriObj (j : Int) : Obj := { cls := .type "range_iterator", data := .fields #[rawInt (j - 1), rawInt j, rawInt (-1)] }
end
def iRevR (ta : TA) : TI := fun σ H R => ta σ H fun vs H1 => ∃ j : Int, vs = [.int j] ∧ 0 ≤ j ∧ j < 2 ^ 62 ∧ R (Itc (j - 1) (-1) j.toNat) H1
end L2
set_option Elab.async false
set_option linter.all false
set_option maxRecDepth 100000
namespace L2
open PySem PySem.Spec PyProof.Rows
structure Callee (P : Program) (w : World) (K : PySem.W.Frag) (mg : Str → Option Value) (base : Heap) (k : Nat) (x : Str) (ps : List Str) (sp : Sp) where
  f : Addr
  fd : FuncData
  ok : FnOk P w K mg base CX0 k f fd ps sp
  at_ : mg x = some (.ref f)
  kp : PySem.W.keepIn K (.ref f) = true
  bd : Binds K fd ps []
theorem pe_callC {X : Cx} {j k : Nat} {x : Str} {ps : List Str} {sp : Sp} {e : Expr} {es : List Expr} {t : TA} {p pos : Pos} (C : Callee X.prog X.w X.K X.mg X.base k x ps sp) (hr : Room j X.A) (hg : Gl X x) (ha : PA X (e :: es) t) (hk : k ≤ j := by decide)
    (hdb : (x == ("__debug__" : Str)) = false := by decide) (he : starEach (e :: es) X.env = (false, eval e X.env) :: starEach es X.env := by rfl) (hpl : (backTo pos (starEach es X.env)).any (·.1) = false := by rfl) :
    PE X (.Call (.Name x p) (e :: es) [] pos) (tCall sp [] E0 t) := pe_call C.ok (hr.mono hk) hg C.at_ C.kp C.bd .nil pass0 ha hdb he hpl
/-- what the text doesn't name itself -/
structure Glb (mg : Str → Option Value) : Prop where
  m_range : mg "range" = none
  m_len : mg "len" = none
  m_max : mg "max" = none
  m_min : mg "min" = none
  m_int : mg "int" = none
  m_bool : mg "bool" = none
  m_str : mg "str" = none
  m_list : mg "list" = none
  m_tuple : mg "tuple" = none
  m_dict : mg "dict" = none
  m_set : mg "set" = none
  m_sum : mg "sum" = none
  m_sorted : mg "sorted" = none
  m_enumerate : mg "enumerate" = none
  m_isinstance : mg "isinstance" = none
  m_reversed : mg "reversed" = none
  m_repr : mg "repr" = none
  m_all : mg "all" = none
  m_zip : mg "zip" = none
theorem Glb.mk_ {K : PySem.W.Frag} {h : Heap} {mg : Str → Option Value} (X : K.In h) (G : h.Ns mainGlobals mg)
    (a1 : PySem.W.nsIn K mainGlobals "range" = some none) (a2 : PySem.W.nsIn K mainGlobals "len" = some none) (a3 : PySem.W.nsIn K mainGlobals "max" = some none) (a4 : PySem.W.nsIn K mainGlobals "min" = some none)
    (a5 : PySem.W.nsIn K mainGlobals "int" = some none) (a6 : PySem.W.nsIn K mainGlobals "bool" = some none) (a7 : PySem.W.nsIn K mainGlobals "str" = some none) (a8 : PySem.W.nsIn K mainGlobals "list" = some none)
    (a9 : PySem.W.nsIn K mainGlobals "tuple" = some none) (a10 : PySem.W.nsIn K mainGlobals "dict" = some none) (a11 : PySem.W.nsIn K mainGlobals "set" = some none) (a12 : PySem.W.nsIn K mainGlobals "sum" = some none)
    (a13 : PySem.W.nsIn K mainGlobals "sorted" = some none) (a14 : PySem.W.nsIn K mainGlobals "enumerate" = some none) (a15 : PySem.W.nsIn K mainGlobals "isinstance" = some none) (a16 : PySem.W.nsIn K mainGlobals "reversed" = some none)
    (a17 : PySem.W.nsIn K mainGlobals "repr" = some none) (a18 : PySem.W.nsIn K mainGlobals "all" = some none) (a19 : PySem.W.nsIn K mainGlobals "zip" = some none) : Glb mg :=
  ⟨PySem.W.mg_none_of X G a1, PySem.W.mg_none_of X G a2, PySem.W.mg_none_of X G a3, PySem.W.mg_none_of X G a4, PySem.W.mg_none_of X G a5, PySem.W.mg_none_of X G a6, PySem.W.mg_none_of X G a7, PySem.W.mg_none_of X G a8, PySem.W.mg_none_of X G a9,
   PySem.W.mg_none_of X G a10, PySem.W.mg_none_of X G a11, PySem.W.mg_none_of X G a12, PySem.W.mg_none_of X G a13, PySem.W.mg_none_of X G a14, PySem.W.mg_none_of X G a15, PySem.W.mg_none_of X G a16, PySem.W.mg_none_of X G a17, PySem.W.mg_none_of X G a18, PySem.W.mg_none_of X G a19⟩
def tCut (t : TS) : TS := fun D σ H => ∃ R : St → Hp → Prop, t { D with nx := R } σ H ∧ ∀ σ' H', R σ' H' → D.nx σ' H'
def tCutE (t : TE) : TE := fun σ H Q => ∃ R : VK, t σ H R ∧ ∀ v H', R v H' → Q v H'
def Kp (p : Addr) (H H' : Hp) : Prop := ∀ b o, H b = some o → b ≠ p → H' b = some o
theorem Kp.refl (p : Addr) (H : Hp) : Kp p H H := fun _ _ h _ => h
theorem Kp.trans {p : Addr} {H H1 H2 : Hp} (a : Kp p H H1) (b : Kp p H1 H2) : Kp p H H2 := fun c o h n => b c o (a c o h n) n
theorem Same.kp {H H' : Hp} (s : Same H H') (p : Addr) : Kp p H H' := fun b o h _ => s b o h
theorem Kp.new {p : Addr} {H H1 : Hp} (a : Kp p H H1) {q : Addr} {o : HO} (h : H1 q = none) : Kp p H (upd H1 q o) := fun b u e n => by
  have := a b u e n
  rw [upd_ne (ne_of_none this h)]; exact this
theorem Kp.set {p : Addr} {H H1 : Hp} (a : Kp p H H1) {o : HO} : Kp p H (upd H1 p o) := fun b u e n => by
  rw [upd_ne n]; exact a b u e n
/-- a new thing changed again -/
theorem Kp.over {p : Addr} {H H1 : Hp} (a : Kp p H H1) {q : Addr} {o : HO} (h : H q = none) : Kp p H (upd H1 q o) := fun b u e n => by
  rw [upd_ne (ne_of_none e h)]; exact a b u e n
theorem same_new {H : Hp} {p : Addr} (h : H p = none) (o : HO) : Same H (upd H p o) := fun b u q => by rw [upd_ne (ne_of_none q h)]; exact q
theorem Kp.seq {K : PySem.W.Frag} {p : Addr} {H H' : Hp} {a : Addr} {xs : List V} (e : Kp p H H') (hp : ∃ o, H p = some o ∧ Mut (some o)) (hne : a ≠ p) (h : SqL K H a xs) : SqL K H' a xs := by
  rcases h with (h | ⟨o, h⟩) | h
  · exact .inl (.inl (e _ _ h hne))
  · exact .inl (.inr ⟨o, e _ _ h hne⟩)
  · exact .inr h
structure HandAt (H : Hp) (p : Addr) : Prop where
  ex : ∃ d r : Int, H p = some (.lst [.int d, .int r]) ∧ 0 ≤ d ∧ 0 ≤ r ∧ r < 2147483587
theorem HandAt.kp {H H' : Hp} {p q : Addr} (h : HandAt H p) (k : Kp q H H') (n : p ≠ q) : HandAt H' p := by
  obtain ⟨d, r, e, z⟩ := h.ex
  exact ⟨d, r, k _ _ e n, z⟩
theorem HandAt.same {H H' : Hp} {p : Addr} (h : HandAt H p) (k : Same H H') : HandAt H' p := by
  obtain ⟨d, r, e, z⟩ := h.ex
  exact ⟨d, r, k _ _ e, z⟩
theorem HandAt.new {H : Hp} {p q : Addr} {o : HO} (h : HandAt H p) (n : H q = none) : HandAt (upd H q o) p := h.same (same_new n o)
theorem HandAt.ne {H : Hp} {p q : Addr} (h : HandAt H p) (n : H q = none) : q ≠ p := by
  obtain ⟨d, r, e, z⟩ := h.ex
  exact (ne_of_none e n).symm
theorem Kp.free {p : Addr} {H H' : Hp} (k : Kp p H H') (h : HandAt H' p) {q : Addr} (n : H' q = none) : H q = none := by
  cases e : H q with
  | none => rfl
  | some o =>
    have := k q o e (h.ne n)
    rw [n] at this; cases this
/-- a frozen or untracked thing is no hand -/
theorem HandAt.neL {K : PySem.W.Frag} {H : Hp} {p a : Addr} (h : HandAt H p) (o : Obj) (u : HO) (e : H a = some (.frz o u)) : a ≠ p := by
  obtain ⟨d, r, e', z⟩ := h.ex
  exact ne_of e e' (by intro z; cases z)
def spDraw : Sp := fun vs H Q _ => ∃ (p : Addr) (L : Int), vs = [.ref p, .int L] ∧ HandAt H p ∧ 0 < L ∧ L < 1073741824 ∧ ∀ (v : Int) (H' : Hp), 0 ≤ v → v < L → HandAt H' p → Kp p H H' → Q (.int v) H'
def spHand : Sp := fun vs H Q _ => ∃ c k : Int, vs = [.int c, .int k] ∧ ∀ (p : Addr) (H' : Hp), H p = none → HandAt H' p → Same H H' → Q (.ref p) H'
def spCells (K : PySem.W.Frag) : Sp := fun vs H Q _ => ∃ (a : Addr) (ns : List Int) (m : Int), vs = [.ref a, .int m] ∧ SqL K H a (ns.map V.int) ∧ ns.length ≤ 63 ∧ 0 ≤ m ∧ ∀ (l : Addr) (ts : List Addr) (H' : Hp), Same H H' → H l = none → H' l = some (.lst (ts.map V.ref)) → ts.length ≤ 64 →
  (∀ (j : Nat) (t : Addr), ts[j]? = some t → ∃ c : Int, H' t = some (.tup [.int j, .int c])) → Q (.ref l) H'
def spGreat (K : PySem.W.Frag) : Sp := fun vs H Q _ => ∃ (a : Addr) (ns : List Int), vs = [.ref a] ∧ SqL K H a (ns.map V.int) ∧ ns.length ≤ 63 ∧ ∀ b, Q (.bl b) H
def IsRow (x : Str) : Prop := ∀ c ∈ x.cps.toList, 97 ≤ c ∧ c ≤ 122
def spRow : Sp := fun vs H Q _ => ∃ (p : Addr) (n : Int), vs = [.ref p, .int n] ∧ HandAt H p ∧ 0 ≤ n ∧ n ≤ 200 ∧ ∀ (x : Str) (H' : Hp), IsRow x → (x.length : Int) = n → HandAt H' p → Kp p H H' → Q (.str x) H'
def spSize : Sp := fun vs H Q _ => ∃ (p : Addr) (m : Int) (b : Bool), vs = [.ref p, .int m, .bl b] ∧ HandAt H p ∧ 7 ≤ m ∧ m ≤ 80 ∧ ∀ (n : Int) (H' : Hp), 0 ≤ n → n ≤ 80 → HandAt H' p → Kp p H H' → Q (.int n) H'
def spLaw (K : PySem.W.Frag) : Sp := fun vs H Q _ => ∃ (a : Addr) (ns : List Int), vs = [.ref a] ∧ SqL K H a (ns.map V.int) ∧ ns.length ≤ 63 ∧ Only H ∧ ∀ H', Q (.bl true) H'
def Scr (K : PySem.W.Frag) (H : Hp) (a : Addr) (xs : List V) : Prop := (∃ o, H a = some (.frz o (.lst xs))) ∨
  ∃ (o : Obj) (its : Array Value) (n : Nat), K.lookup a = some o ∧ o.cls = .type "list" ∧ o.dict = none ∧ o.data = .seq its n ∧ its.size ≤ sizeLine ∧ Vals xs its.toList
theorem Scr.seq {K : PySem.W.Frag} {H : Hp} {a : Addr} {xs : List V} (h : Scr K H a xs) : SqL K H a xs := by
  rcases h with ⟨o, h⟩ | h
  · exact .inl (.inr ⟨o, h⟩)
  · exact .inr h
theorem Scr.of {K : PySem.W.Frag} {H : Hp} {a : Addr} {xs : List V} (h : SqL K H a xs) (O : Only H) : Scr K H a xs := by
  rcases h with (h | ⟨o, h⟩) | h
  · rcases O a with z | ⟨o, ys, z⟩
    · rw [z] at h; cases h
    · rw [z] at h; cases h
  · exact .inl ⟨o, h⟩
  · exact .inr h
theorem Scr.same {K : PySem.W.Frag} {H H' : Hp} {a : Addr} {xs : List V} (h : Scr K H a xs) (k : Same H H') : Scr K H' a xs := by
  rcases h with ⟨o, h⟩ | h
  · exact .inl ⟨o, k _ _ h⟩
  · exact .inr h
theorem Scr.kp {K : PySem.W.Frag} {H H' : Hp} {a p : Addr} {xs : List V} (h : Scr K H a xs) (hp : HandAt H p) (k : Kp p H H') : Scr K H' a xs := by
  rcases h with ⟨o, h⟩ | h
  · exact .inl ⟨o, k _ _ h (hp.neL (K := K) _ _ h)⟩
  · exact .inr h
theorem depth_ints : ∀ ns : List Int, PyData.depthAll (ns.map PyData.int) = 0
  | [] => rfl
  | n :: ns => by
    show max (PyData.depth (.int n)) (PyData.depthAll (ns.map PyData.int)) = 0
    rw [depth_ints ns]; rfl
theorem dpAll_ints {K : PySem.W.Frag} {H : Hp} : ∀ ns : List Int, DpAll K H (ns.map V.int) (ns.map PyData.int)
  | [] => .nil
  | n :: ns => .cons (.int n) (dpAll_ints ns)
theorem Dp.ints {K : PySem.W.Frag} {H : Hp} {a : Addr} {ns : List Int} (h : SqL K H a (ns.map V.int)) : Dp K H (.ref a) (.list (ns.map PyData.int)) := .lst h (dpAll_ints ns)
theorem map_cut (ns : List Int) (lo hi : Option Int) : cutV (ns.map V.int) lo hi = ((ns.drop (HT.sIx ns.length 0 lo)).take (HT.sIx ns.length ns.length hi - HT.sIx ns.length 0 lo)).map V.int := by
  unfold cutV
  rw [List.length_map, List.map_take, List.map_drop]
end L2
set_option Elab.async false
set_option linter.all false
set_option maxRecDepth 100000
namespace L2
open PySem PySem.Spec PyProof.Rows
theorem len_cps (x : Str) : x.length = x.cps.toList.length := by show x.cps.size = _; rw [Array.length_toList]
theorem mul_cps (x : Str) (n : Int) : (mulS x n).cps.toList = (List.replicate n.toNat x.cps.toList).flatten := by simp [mulS]
theorem IsRow.mul {x : Str} (h : IsRow x) (n : Int) : IsRow (mulS x n) := fun c hc => by
  rw [mul_cps] at hc
  obtain ⟨l, hl, hc⟩ := List.mem_flatten.mp hc
  rw [(List.mem_replicate.mp hl).2] at hc
  exact h c hc
/-- one sign -/
def sg (c : Nat) : Str := ⟨#[c]⟩
end L2
set_option Elab.async false
set_option linter.all false
set_option maxRecDepth 100000
namespace L2
open PySem PySem.Spec PyProof.Rows
structure CalleeM (P : Program) (w : World) (K : PySem.W.Frag) (mg : Str → Option Value) (base : Heap) (k : Nat) (C : Addr) (m : Str) (ps : List Str) (sp : Sp) where
  f : Addr
  fd : FuncData
  ok : FnOk P w K mg base CX0 k f fd ps sp
  cl : Cls K C
  me : Meth K C m f
  bd : Binds K fd ps []
structure CalleeI (P : Program) (w : World) (K : PySem.W.Frag) (mg : Str → Option Value) (base : Heap) (k : Nat) (C : Addr) (x : Str) (ps : List Str) (sp : Sp) where
  f : Addr
  fd : FuncData
  ok : FnOk P w K mg base CX0 k f fd ps sp
  mk_ : Mk K C f
  at_ : mg x = some (.ref C)
  bd : Binds K fd ps []
def nxtL : List Nat → Nat → Str → Option Nat
  | [], _, _ => none
  | c :: cs, k, x => if sg c = x then some k else nxtL cs (k + 1) x
def nxt (cs : List Nat) (i : Nat) (x : Str) : Option Nat := nxtL (cs.drop i) i x
def optV : Option Nat → V
  | none => .non
  | some j => .int j
end L2
set_option Elab.async false
set_option linter.all false
set_option maxRecDepth 100000
namespace L2
open PySem PySem.Spec PyProof.Rows
end L2
set_option Elab.async false
set_option linter.all false
set_option maxRecDepth 100000
namespace L2
open PySem PySem.Spec PyProof.Rows
def revSObj (x : Str) (t : Tok) (i : Int) : Obj := { cls := .type "reversed", data := .fields #[.str x t, rawInt i] }
def IsRevS (h : Heap) (a : Addr) (x : Str) (t : Tok) (i : Int) : Prop := h.get? a = some (revSObj x t i)
section
variable {prog : Program} {w : World} {A : Around} {E : Value → Shared → Prop} {s : Shared}
theorem IsRevS.typeIs {a : Addr} {x : Str} {t : Tok} {i : Int} (h : IsRevS s.heap a x t i) : s.TypeIs (.ref a) "reversed" := ⟨_, h, rfl⟩
end
/-- the signs of a text from behind -/
def ItsR (x : Str) : It := ⟨fun i _ => i < x.cps.size, fun i H v H' => H' = H ∧ ∃ c, x.cps[x.cps.size - 1 - i]? = some c ∧ v = .str ⟨#[c]⟩, fun i _ => x.cps.size ≤ i⟩
def iRevS (ta : TA) : TI := fun σ H R => ta σ H fun vs H1 => ∃ x : Str, vs = [.str x] ∧ x.length ≤ sizeLine ∧ R (ItsR x) H1
end L2
set_option Elab.async false
set_option linter.all false
set_option maxRecDepth 100000
namespace L2
open PySem PySem.Spec PyProof.Rows
theorem lc_cnt {J : It} {n : Nat} (go : ∀ i H, i < n → J.go i H) (stop : ∀ i H, n ≤ i → J.stop i H) {g : TG} {tt : TT} {te : TE} {vs : List Nat} {σ : St} {H1 : Hp} {D : Addr} {Qd : Hp → Prop} (Pv : Nat → Hp → Prop) (h0 : Pv 0 (upd H1 D (.lst [])))
    (hs : ∀ i x H H', i < n → J.yld i H x H' → Pv i H → g x (wipe σ vs) H' fun σ2 H2 => wipe σ2 vs = wipe σ vs ∧ tt σ2 H2 fun b H3 =>
      if b = true then te σ2 H3 fun y H4 => ∃ acc, H4 D = some (.lst acc) ∧ acc.length < sizeLine ∧ Pv (i + 1) (upd H4 D (.lst (acc ++ [y]))) else Pv (i + 1) H3) (hd : ∀ H, Pv n H → Qd H) :
    ∃ W : Nat → Nat → Hp → Prop, (∃ m, W 0 m (upd H1 D (.lst []))) ∧ ∀ i m H, W i m H →
      (J.stop i H ∧ Qd H) ∨ (J.go i H ∧ ∃ Nx : Hp → Prop, (∀ H', Nx H' → ∃ m', m' < m ∧ W (i + 1) m' H') ∧ ∀ x H', J.yld i H x H' → g x (wipe σ vs) H' fun σ2 H2 => wipe σ2 vs = wipe σ vs ∧ tt σ2 H2 fun b H3 =>
        if b = true then te σ2 H3 fun y H4 => ∃ acc, H4 D = some (.lst acc) ∧ acc.length < sizeLine ∧ Nx (upd H4 D (.lst (acc ++ [y]))) else Nx H3) := by
  refine ⟨fun i m H => m = n - i ∧ i ≤ n ∧ Pv i H, ⟨n, by simp, Nat.zero_le _, h0⟩, ?_⟩
  rintro i m H ⟨rfl, hi, p⟩
  by_cases hlt : i < n
  · exact .inr ⟨go i H hlt, Pv (i + 1), fun H' p' => ⟨n - (i + 1), by omega, rfl, hlt, p'⟩, fun x H' y => hs i x H H' hlt y p⟩
  · have e : i = n := by omega
    subst e
    exact .inl ⟨stop _ _ (Nat.le_refl _), hd H p⟩
theorem lc_str {z : Str} {g : TG} {tt : TT} {te : TE} {vs : List Nat} {σ : St} {H1 : Hp} {D : Addr} {Qd : Hp → Prop} (Pv : Nat → Hp → Prop) (h0 : Pv 0 (upd H1 D (.lst [])))
    (hs : ∀ i c H, z.cps.toList[i]? = some c → Pv i H → g (.str (sg c)) (wipe σ vs) H fun σ2 H2 => wipe σ2 vs = wipe σ vs ∧ tt σ2 H2 fun b H3 =>
      if b = true then te σ2 H3 fun y H4 => ∃ acc, H4 D = some (.lst acc) ∧ acc.length < sizeLine ∧ Pv (i + 1) (upd H4 D (.lst (acc ++ [y]))) else Pv (i + 1) H3) (hd : ∀ H, Pv z.cps.toList.length H → Qd H) :
    ∃ W : Nat → Nat → Hp → Prop, (∃ m, W 0 m (upd H1 D (.lst []))) ∧ ∀ i m H, W i m H →
      ((Its z).stop i H ∧ Qd H) ∨ ((Its z).go i H ∧ ∃ Nx : Hp → Prop, (∀ H', Nx H' → ∃ m', m' < m ∧ W (i + 1) m' H') ∧ ∀ x H', (Its z).yld i H x H' → g x (wipe σ vs) H' fun σ2 H2 => wipe σ2 vs = wipe σ vs ∧ tt σ2 H2 fun b H3 =>
        if b = true then te σ2 H3 fun y H4 => ∃ acc, H4 D = some (.lst acc) ∧ acc.length < sizeLine ∧ Nx (upd H4 D (.lst (acc ++ [y]))) else Nx H3) := by
  have hl : z.cps.toList.length = z.cps.size := Array.length_toList
  refine lc_cnt (n := z.cps.toList.length) (fun i H h => by show i < z.cps.size; omega) (fun i H h => by show z.cps.size ≤ i; omega) Pv h0 (fun i x H H' hi y p => ?_) hd
  obtain ⟨rfl, c, hc, rfl⟩ := y
  exact hs i c _ (by rw [Array.getElem?_toList]; exact hc) p
end L2
set_option Elab.async false
set_option linter.all false
set_option maxRecDepth 100000
namespace L2
open PySem PySem.Spec PyProof.Rows
abbrev tabO (ps : Array Value) : Obj := { cls := .none, data := .fields ps }
def TabP (P : Addr) : Heap → Prop := fun h => ∃ ps : Array Value, h.get? P = some (tabO ps) ∧ TriplesOk ps.toList
theorem TabP.ok {Pg : Program} {w : World} {H : Hp} {h : Heap} {P : Addr} (t : TabP P h) : ObjOk Pg w H h P (.ext (TabP P)) :=
  ⟨t, let ⟨ps, e, _⟩ := t; ⟨_, e⟩, fun h1 h2 ⟨ps, e, r⟩ k => ⟨ps, k _ e, r⟩⟩
theorem upd_id {H : Hp} {a : Addr} {o : HO} (e : H a = some o) : upd H a o = H := by
  funext b
  unfold upd
  split
  · rename_i z; rw [z, e]
  · rfl
/-- what is written of a code object -/
structure CodeK (K : PySem.W.Frag) (c P : Addr) : Prop where
  ex : ∃ o vs file tf flags tg inF text tt, K.lookup c = some o ∧ o.cls = .type "code" ∧ o.data = .fields vs ∧ vs[11]? = some (.ref P) ∧ vs.getD 11 .none = .ref P ∧ vs.getD 18 .none = .str file tf ∧
    vs.getD 7 .none = .int flags tg ∧ vs.getD 9 .none = .bool inF ∧ vs.getD 10 .none = .int text tt ∧ c ≠ P
theorem CodeK.at {K : PySem.W.Frag} {c P : Addr} {h : Heap} {ps : Array Value} (C : CodeK K c P) (X : K.In h) (hP : h.get? P = some (tabO ps)) (ht : TriplesOk ps.toList) : h.IsCode c P ps ∧ h.TableAt c P ps := by
  obtain ⟨o, vs, file, tf, flags, tg, inF, text, tt, e1, e2, e3, e4, f3, f4, f5, f6, f7, f11⟩ := C.ex
  have e := X _ _ e1
  exact ⟨⟨o, vs, file, tf, flags, tg, inF, text, tt, _, e, e3, f3, f4, f5, f6, f7, hP, rfl, ht, f11⟩, ⟨o, vs, e, e2, e3, e4⟩, hP⟩
structure BModB (base : Heap) (mg : Str → Option Value) : Prop where
  ex : ∃ bm ob, mg "__builtins__" = some (.ref bm) ∧ bm ≠ builtinsNs ∧ base.get? bm = some ob ∧ ob.cls = .type "module" ∧ ob.dict = some builtinsNs ∧ ob.data = .plain
section
variable {prog : Program} {w : World} {A : Around} {E : Value → Shared → Prop} {s : Shared}
theorem genexprCode_found {env : Env} {c P : Addr} {ps : Array Value} {pos : Pos} {qualname : Str} {scope : Scope} {cv : Value} {Q : Value → Shared → Prop} (hc : env.code = .ref c) (hok : s.heap.IsCode c P ps) (hf : codeAmong pos ps.toList = some cv) (hQ : Q cv s) :
    wpAny (model prog w) A (genexprCode env pos qualname scope) Q E s := by
  obtain ⟨o, vs, file, tf, flags, tg, inF, text, tt, op, ho, hd, h11, h2, h7, h9, h10, hop, hpd, htr, hne⟩ := id hok
  unfold genexprCode codeAt
  rw [hc, if_neg (show ¬ ((Value.ref c == Value.none) = true) from Bool.false_ne_true)]
  refine wpAny_bind (wpAny_fieldsOf ho hd ?_)
  rw [h11]
  refine wpAny_bind (wpAny_fieldsOf hop hpd ?_)
  rw [hf]
  exact wpAny_pure hQ
theorem genexprCode_any {env : Env} {c P : Addr} {ps : Array Value} {pos : Pos} {qualname : Str} {scope : Scope} (hc : env.code = .ref c) (hok : s.heap.IsCode c P ps) (htab : s.heap.TableAt c P ps) :
    wpAny (model prog w) A (genexprCode env pos qualname scope) (fun _ s3 => ∃ h3 tk, s3 = { s with heap := h3, toks := tk } ∧ Heap.ExtBut P s.heap h3 ∧ s.heap.objs.size ≤ h3.objs.size ∧ TabP P h3) E s := by
  obtain ⟨_, _, _, _, _, _, _, _, _, _, _, _, _, _, _, _, _, _, _, htr, _⟩ := id hok
  cases hf : codeAmong pos ps.toList with
  | some cv => exact genexprCode_found hc hok hf ⟨s.heap, s.toks, rfl, Heap.ExtBut.refl _ _, Nat.le_refl _, ps, htab.2, htr⟩
  | none =>
    refine wpAny_genexprCodeX hc hok htab hf fun c' h' tk hx hge hlt hcode _ htab' _ => ⟨h', tk, rfl, hx, Nat.le_trans hge (Nat.le_of_lt hlt), _, htab'.2, ?_⟩
    obtain ⟨_, _, _, _, _, _, _, _, _, _, _, _, _, _, _, _, _, _, hpd', htr', _⟩ := hcode
    exact htr'
end
theorem Inv.grow {X : Cx} {pins : List (Addr × Obj)} {σ : St} {H : Hp} {s : Shared} {P : Addr} {h' : Heap} {t' : Nat} (I : Inv X pins σ H s) (hP : H P = some (.ext (TabP P))) (hx : Heap.ExtBut P s.heap h') (ht : TabP P h') :
    Inv X pins σ H { s with heap := h', toks := t' } := by
  have := I.write (x := P) (e := P) (o := .ext (TabP P)) (h' := h') (t' := t') (by rw [hP]; trivial) (.inl rfl) (fun b u hb e => hx b u hb e) (let ⟨ps, e, _⟩ := ht; ⟨_, e⟩) ht.ok
  rw [upd_id hP] at this
  exact this
end L2
set_option Elab.async false
set_option linter.all false
set_option maxRecDepth 100000
namespace L2
open PySem PySem.Spec PyProof.Rows
/-- what is asked of each sign -/
def ElS (prog : Program) (w : World) (D U : Nat) (scope : Scope) (cl : List (Str × Addr)) (x : Str) (elt : Expr) (env : Env) (pr : Nat → Bool) : Prop :=
  ∀ (A' : Around) (E' : Value → Shared → Prop) (C : Addr) (code : Value) (c : Nat) (u : Tok) (s₂ : Shared) (m₂ : Str → Option Value), A'.handled = none → A'.depth ≤ D → A'.units ≤ U → s₂.heap.Ns C m₂ → m₂ x = some (.str ⟨#[c]⟩ u) →
    wpAny (model prog w) A' (eval elt (genEnv scope cl C code builtinsNs env)) (fun y s₃ => y = .bool (pr c) ∧ Keeps s₂ s₃) E' s₂
def tAllS (P : Addr) (pr : Nat → Bool) (te : TE) : TE := fun σ H Q => te σ H fun v H1 => ∃ z : Str, v = .str z ∧ H1 P = some (.ext (TabP P)) ∧ Q (.bl (z.cps.toList.all pr)) H1
theorem all_at (l : List Nat) (pr f : Nat → Bool) (hf : ∀ j c, l[j]? = some c → f j = pr c) : (List.range l.length).all f = l.all pr := by
  rw [Bool.eq_iff_iff, List.all_eq_true, List.all_eq_true]
  constructor
  · intro h b hb
    obtain ⟨j, hj, rfl⟩ := List.getElem_of_mem hb
    rw [← hf j _ (List.getElem?_eq_getElem hj)]
    exact h j (List.mem_range.mpr hj)
  · intro h j hj
    have hj' := List.mem_range.mp hj
    rw [hf j _ (List.getElem?_eq_getElem hj')]
    exact h _ (List.getElem_mem hj')
theorem passing_all (n : Nat) : passing (fun _ => true) n 0 = List.range n := by simp [passing]
section
variable {X : Cx} {iter elt : Expr} {te : TE} {x : Str} {px p gpos pos : Pos} {scope : Scope} {cl : List (Str × Addr)} {c P : Addr} {k : Nat} {pr : Nat → Bool}
end
end L2
set_option Elab.async false
set_option linter.all false
set_option maxRecDepth 100000
namespace L2
open PySem PySem.Spec PyProof.Rows
def OnlyT (tabs : List Addr) (H : Hp) : Prop := ∀ b, H b = none ∨ (∃ o xs, H b = some (.frz o (.lst xs))) ∨ (b ∈ tabs ∧ H b = some (.ext (TabP b)))
def Tabs (tabs : List Addr) (H : Hp) : Prop := ∀ P ∈ tabs, H P = some (.ext (TabP P))
theorem Tabs.same {tabs : List Addr} {H H' : Hp} (t : Tabs tabs H) (s : Same H H') : Tabs tabs H' := fun P hP => s _ _ (t P hP)
theorem law_callT {P : Program} {w : World} {K : PySem.W.Frag} {mg mb : Str → Option Value} {CX : CXT} {k : Nat} {fa a : Addr} {fd : FuncData} {x : Str} {sp : Sp} {s₁ : Shared} {vs : List Value} {ns : List Int} {tabs : List Addr}
    (KX : K.In s₁.heap) (hns : s₁.heap.Ns mainGlobals mg) (hb : s₁.heap.Ns builtinsNs mb) (hbb : ∀ x : Str, x ≠ "__name__" → mb x = bootBuiltins x) (hlim : s₁.heap.NoLimit) (hg : s₁.gens = #[])
    (ha : s₁.heap.get? a = some { cls := .type "list", data := .seq vs.toArray }) (hi : IntsAre vs ns) (hl : ns.length ≤ sizeLine) (hr : Room k callerA)
    (hT : ∀ P ∈ tabs, s₁.heap.get? P = some (tabO #[]) ∧ isCodeTable s₁.heap P) (hKt : ∀ P ∈ tabs, K.lookup P = none) (hbm : BModB s₁.heap mg)
    (F : ∀ base : Heap, K.In base → base.Ns mainGlobals mg → BModB base mg → FnOk P w K mg base CX k fa fd [x] sp) (hbind : ∀ (s : Shared) (u : Value), BindsTo s fd ⟨[u], []⟩ [(x, u)])
    (hsp : ∀ H : Hp, OnlyT tabs H → Tabs tabs H → SqL K H a (ns.map V.int) → sp [.ref a] H (fun v H' => v = .bl true ∧ Tabs tabs H') fun _ _ _ => False)
    (hCX : ∀ H e s', CX [] H s₁ (fun _ _ _ => False) e s' → False) :
    codeAny (model P w) callerA (.call (.ref fa) ⟨[.ref a], []⟩) (fun r s' => r = .ok (.ret (.bool true)) ∧ OldK s₁.heap s'.heap ∧ s'.os = s₁.os ∧ AllBare s'.gens) s₁ := by
  have rv := vals_ints hi
  have lenV := hi.length
  have hat : a ∉ tabs := fun h => by
    have := (hT a h).1
    rw [ha] at this; cases this
  have core : ∀ H : Hp, OnlyT tabs H → Tabs tabs H → SqL K H a (ns.map V.int) → HOk P w H s₁.heap → (∀ b, H b ≠ none → b = a ∨ b ∈ tabs) → (H a ≠ none → K.lookup a = none) →
      codeAny (model P w) callerA (.call (.ref fa) ⟨[.ref a], []⟩) (fun r s' => r = .ok (.ret (.bool true)) ∧ OldK s₁.heap s'.heap ∧ s'.os = s₁.os ∧ AllBare s'.gens) s₁ := by
    intro H hO hTb hS hok hA hK
    have base_of : ∀ {b : Addr} {o : Obj}, s₁.heap.get? b = some o → H b = none → (hidT s₁.heap H).get? b = some o := fun e n => hidT_get e n
    have noA : ∀ {b : Addr} {o : Obj}, s₁.heap.get? b = some o → o.cls ≠ .none → o.cls ≠ .type "list" → H b = none := fun {b o} e c1 c2 => by
      cases q : H b with
      | none => rfl
      | some u =>
        rcases hA b (by rw [q]; simp) with e' | e'
        · subst e'
          rw [ha] at e; cases e
          exact absurd rfl c2
        · have := (hT b e').1
          rw [e] at this; cases this
          exact absurd rfl c1
    have noD : ∀ {b : Addr} {o : Obj} {es : Array DictEntry} {ep : Nat}, s₁.heap.get? b = some o → o.data = .dict es ep → H b = none := fun {b o es ep} e d => by
      cases q : H b with
      | none => rfl
      | some u =>
        rcases hA b (by rw [q]; simp) with e' | e'
        · subst e'
          rw [ha] at e; cases e
          have d' : Data.seq vs.toArray _ = Data.dict es ep := d
          cases d'
        · have := (hT b e').1
          rw [e] at this; cases this
          cases d
    have nsK : ∀ {b : Addr} {m : Str → Option Value}, s₁.heap.Ns b m → (hidT s₁.heap H).Ns b m := fun {b m} ⟨o, es, ep, e, d, r⟩ => ⟨o, es, ep, base_of e (noD e d), d, r⟩
    have hKb : K.In (hidT s₁.heap H) := fun b o e => base_of (KX b o e) (by
      cases q : H b with
      | none => rfl
      | some u =>
        rcases hA b (by rw [q]; simp) with e' | e'
        · subst e'
          rw [hK (by rw [q]; simp)] at e; cases e
        · rw [hKt b e'] at e; cases e)
    have hbmB : BModB (hidT s₁.heap H) mg := by
      obtain ⟨bm, ob, b1, b2, b3, b4, b5, b6⟩ := hbm.ex
      exact ⟨bm, ob, b1, b2, base_of b3 (noA b3 (by rw [b4]; simp) (by rw [b4]; simp)), b4, b5, b6⟩
    have hM : Mod K mg (hidT s₁.heap H) := ⟨hKb, nsK hns, ⟨mb, nsK hb, hbb⟩, let ⟨mc, h1, h2⟩ := hlim; ⟨mc, nsK h1, h2⟩⟩
    have e0 : Env0 P w K mg (hidT s₁.heap H) callerA [] s₁ H := ⟨rfl, hM, fun b o e => of_hidT e, Nat.le_of_eq (hidT_size _ _), trivial, fun b hb => absurd (show b ∈ ([] : List Addr) from hb) (by simp), hok, .of_eq hg⟩
    refine codeAny_mono ((F _ hKb (nsK hns) hbmB).run callerA [] s₁ H ⟨[.ref a], []⟩ [.ref a] [.ref a] _ _ hr e0 (hbind s₁ (.ref a)) (.cons rfl .nil) (hsp H hO hTb hS)) fun r s' h => ?_
    cases r with
    | error e => exact (hCX H e s' h).elim
    | ok fl =>
      cases fl with
      | next => exact False.elim h
      | brk => exact False.elim h
      | cont => exact False.elim h
      | ret u =>
        obtain ⟨v, H', os, bare, un, hok', r', q⟩ := h
        obtain ⟨q', qT⟩ := q
        subst q'
        obtain rfl : u = Value.bool true := r'
        have key : ∀ b o, s₁.heap.get? b = some o → s'.heap.get? b = some o ∨ (b ∈ tabs ∧ o = tabO #[] ∧ ∃ ps, s'.heap.get? b = some (tabO ps)) := fun b o e => by
          cases q : H b with
          | none => exact .inl (un.keep b o e q (by intro z; exact absurd (show b ∈ ([] : List Addr) from z) (by simp)) (by simp))
          | some u =>
            rcases hO b with z | ⟨ob, xs, z⟩ | ⟨z1, z2⟩
            · rw [q] at z; cases z
            · have z2 := un.frzs b ob _ z
              obtain ⟨e1, _⟩ := hok b _ z
              obtain ⟨e2, _⟩ := hok' b _ z2
              rw [e] at e1; cases e1
              exact .inl e2
            · obtain ⟨⟨ps, e3, _⟩, _⟩ := hok' b _ (qT b z1)
              have := (hT b z1).1
              rw [e] at this
              exact .inr ⟨z1, Option.some.inj this, ps, e3⟩
        refine ⟨rfl, ⟨fun b o e => ?_, fun b o e => ?_⟩, os, bare⟩
        · rcases key b o e with z | ⟨z1, rfl, ps, z⟩
          · exact .inl z
          · exact .inr (.inl ⟨(hT b z1).2, rfl, #[], ps, rfl, by simpa using z⟩)
        · rcases key b o e with z | ⟨z1, rfl, ps, z⟩
          · exact ⟨_, z⟩
          · exact ⟨_, z⟩
  have okT : ∀ (H : Hp) (b : Addr), b ∈ tabs → ObjOk P w H s₁.heap b (.ext (TabP b)) := fun H b hb => TabP.ok ⟨#[], (hT b hb).1, trivial⟩
  cases hk : K.lookup a with
  | some o =>
    have e := KX a o hk
    rw [ha] at e
    cases e
    refine core (fun b => if b ∈ tabs then some (.ext (TabP b)) else none) (fun b => ?_) (fun b hb => if_pos hb) (.inr ⟨_, vs.toArray, _, hk, rfl, rfl, rfl, by rw [List.size_toArray, lenV]; exact hl, by simpa using rv⟩) (fun b u z => ?_) (fun b z => ?_) fun z => absurd (if_neg hat) z
    · by_cases hb : b ∈ tabs
      · exact .inr (.inr ⟨hb, if_pos hb⟩)
      · exact .inl (if_neg hb)
    · by_cases hb : b ∈ tabs
      · have z' := (if_pos hb).symm.trans z
        cases z'
        exact okT _ b hb
      · have z' := (if_neg hb).symm.trans z
        cases z'
    · by_cases hb : b ∈ tabs
      · exact .inr hb
      · exact absurd (if_neg hb) z
  | none =>
    refine core (fun b => if b ∈ tabs then some (.ext (TabP b)) else if b = a then some (.frz { cls := .type "list", data := .seq vs.toArray } (.lst (ns.map V.int))) else none) (fun b => ?_) (fun b hb => if_pos hb)
      (.inl (.inr ⟨{ cls := .type "list", data := .seq vs.toArray }, (if_neg hat).trans (if_pos rfl)⟩)) (fun b u z => ?_) (fun b z => ?_) fun _ => hk
    · by_cases hb : b ∈ tabs
      · exact .inr (.inr ⟨hb, if_pos hb⟩)
      · by_cases hb2 : b = a
        · exact .inr (.inl ⟨_, _, (if_neg hb).trans (if_pos hb2)⟩)
        · exact .inl ((if_neg hb).trans (if_neg hb2))
    · by_cases hb : b ∈ tabs
      · have z' := (if_pos hb).symm.trans z
        cases z'
        exact okT _ b hb
      · by_cases hb2 : b = a
        · have z' := ((if_neg hb).trans (if_pos hb2)).symm.trans z
          cases z'
          subst hb2
          exact ⟨ha, by rw [List.length_map]; exact hl, vs, _, rv, ha⟩
        · have z' := ((if_neg hb).trans (if_neg hb2)).symm.trans z
          cases z'
    · by_cases hb : b ∈ tabs
      · exact .inr hb
      · by_cases hb2 : b = a
        · exact .inl hb2
        · exact absurd ((if_neg hb).trans (if_neg hb2)) z
def Makers (q : Program) (K : PySem.W.Frag) : List (Str × Addr) → Prop
  | [] => True
  | (x, P) :: r => (∃ d f c od sl fd oc, (recsOf q).find? (fun e => e.name == x) = some d ∧ PySem.W.nsIn K mainGlobals x = some (some (.ref f)) ∧ K.lookup f = some ⟨oc, od, .func fd, sl⟩ ∧ fd.code = .ref c ∧ CodeK K c P ∧ K.lookup P = none) ∧ Makers q K r
theorem Makers.of {q : Program} {K : PySem.W.Frag} {loose : List Str} {mean : ExcName → Option Value} {mg mb : Str → Option Value} {h : Heap} (T : Top q loose mean mg mb h) (X : K.In h) : ∀ {l : List (Str × Addr)}, Makers q K l →
    ∀ P ∈ l.map (·.2), h.get? P = some (tabO #[]) ∧ isCodeTable h P ∧ K.lookup P = none
  | [], _, P, hP => by cases hP
  | (x, P0) :: r, ⟨⟨d, f, c, od, sl, fd, oc, hd, hn, hf, hc, ck, hk⟩, hr⟩, P, hP => by
    rcases List.mem_cons.mp hP with rfl | hP
    · obtain ⟨a, o, fd', c', P', h1, h2, h3, h4, h5, h6⟩ := T.tab d (List.mem_of_find?_eq_some hd)
      have hx : d.name = x := beq_iff_eq.mp (List.find?_some (p := fun e : DefRec => e.name == x) hd)
      rw [hx, PySem.W.mg_of X T.g hn] at h1
      cases h1
      rw [X _ _ hf] at h2
      cases h2
      cases h3
      rw [hc] at h4
      cases h4
      obtain ⟨o2, vs, file, tf, flags, tg, inF, text, tt, e1, e2, e3, e4, f3, f4, f5, f6, f7, f11⟩ := ck.ex
      obtain ⟨⟨o3, vs3, g1, g2, g3, g4⟩, g5⟩ := id h6
      rw [X _ _ e1] at g1
      cases g1
      rw [e3] at g3
      cases g3
      rw [e4] at g4
      cases g4
      exact ⟨g5, h6.isCodeTable, hk⟩
    · exact Makers.of T X hr P hP
theorem walk_ofT {l : PySem.W.OpenLaw} {n k : Nat} {q : Program} {loose : List Str} {XP : (Str → Option Value) → Heap → Prop} {YP : World → Heap → Prop} {d : DefRec} {K : Params → PySem.W.Frag} {CX : World → CXT} {sp : World → Sp} {x : Str} (mks : List (Str × Addr))
    (hn : l.most = some n) (hn2 : n ≤ sizeLine) (hdf : d.params.defaults = []) (hr : Room k callerA)
    (hY : ∀ (w : World) (h : Heap), YP w h → (K w.params).In h)
    (hmk : ∀ w : World, Makers q (K w.params) mks)
    (F : ∀ (w : World) (mg : Str → Option Value) (fa : Addr) (h : Heap), (K w.params).In h → h.Ns mainGlobals mg → mg d.name = some (.ref fa) →
      ∃ fd : FuncData, (∀ (s : Shared) (u : Value), BindsTo s fd ⟨[u], []⟩ [(x, u)]) ∧
        ∀ base : Heap, (K w.params).In base → base.Ns mainGlobals mg → BModB base mg → FnOk l.prog w (K w.params) mg base (CX w) k fa fd [x] (sp w))
    (hsp : ∀ (w : World) (H : Hp) (a : Addr) (ns : List Int), ns.length ≤ n → OnlyT (mks.map (·.2)) H → Tabs (mks.map (·.2)) H → SqL (K w.params) H a (ns.map V.int) → sp w [.ref a] H (fun v H' => v = .bl true ∧ Tabs (mks.map (·.2)) H') fun _ _ _ => False)
    (hCX : ∀ (w : World) (H : Hp) (s : Shared) (e : Value) (s' : Shared), CX w [] H s (fun _ _ _ => False) e s' → False) :
    PySem.W.WalkO q loose XP YP l.row.toRowW d [] (fun f vs => PySem.call f vs) := by
  refine Att.attach_call hn hdf fun w s₀ s₁ mg mb fa o pm cd doc a vs ns G Y ho hd hcd hmg hobj hints hlen hg => ?_
  have KX := hY w _ Y
  obtain ⟨fd, hb, hF⟩ := F w mg fa _ KX G.T.g hmg
  have hM := Makers.of G.T KX (hmk w)
  exact law_callT KX G.T.g G.T.b G.T.builtins G.T.nolimit hg hobj hints (Nat.le_trans hlen hn2) hr (fun P hP => ⟨(hM P hP).1, (hM P hP).2.1⟩) (fun P hP => (hM P hP).2.2) ⟨G.T.bmain⟩ hF hb (fun H hO hT hS => hsp w H a ns hlen hO hT hS) fun H e s' => hCX w H s₁ e s'
def spLawT (K : PySem.W.Frag) (tabs : List Addr) : Sp := fun vs H Q _ => ∃ (a : Addr) (ns : List Int), vs = [.ref a] ∧ SqL K H a (ns.map V.int) ∧ ns.length ≤ 63 ∧ OnlyT tabs H ∧ Tabs tabs H ∧ ∀ H', Tabs tabs H' → Q (.bl true) H'
theorem Scr.ofT {K : PySem.W.Frag} {tabs : List Addr} {H : Hp} {a : Addr} {xs : List V} (h : SqL K H a xs) (O : OnlyT tabs H) : Scr K H a xs := by
  rcases h with (h | ⟨o, h⟩) | h
  · rcases O a with z | ⟨o, ys, z⟩ | ⟨_, z⟩
    · rw [z] at h; cases h
    · rw [z] at h; cases h
    · rw [z] at h; cases h
  · exact .inl ⟨o, h⟩
  · exact .inr h
end L2
set_option Elab.async false
set_option linter.all false
set_option maxRecDepth 100000
namespace L2
open PySem PySem.Spec PyProof.Rows
theorem el_between {prog : Program} {w : World} {D U : Nat} {scope : Scope} {cl : List (Str × Addr)} {x lo hi : Str} {env : Env} {j1 j2 : Nat} {p1 p2 p3 pos : Pos} (hx : scope.names.lookup x = some .local) (hkind : scope.kind = .function) (hd : (x == ("__debug__" : Str)) = false := by decide) :
    ElS prog w D U scope cl x (.Compare (.Constant (.str lo) j1 p1) [.LtE, .LtE] [.Name x p2, .Constant (.str hi) j2 p3] pos) env (fun c => !decide ([c] < lo.cps.toList) && !decide (hi.cps.toList < [c])) := by
  intro A' E' C code c u s₂ m₂ hA _ _ hn hm
  have kp : ∀ tk : Nat, Keeps s₂ { s₂ with toks := tk } := fun tk => ⟨s₂.heap, tk, rfl, fun _ _ e => e⟩
  refine Compare_chain (Calls.Constant_str ?_) (by with_unfolding_all rfl)
  refine chain_link (wpAny_Name (wpAny_loadName_local (m := m₂) hkind hx hn hm ?_) hd)
  refine PySem.P.le_str ?_
  refine wpAny_truthy_bool ?_
  cases hb : (!decide ((Str.mk #[c]).cps.toList < lo.cps.toList)) with
  | false =>
    refine ite_ff ⟨?_, kp _⟩
    show Value.bool false = Value.bool ((!decide ((Str.mk #[c]).cps.toList < lo.cps.toList)) && _)
    rw [hb]; rfl
  | true =>
    refine ite_tt (chain_last (Calls.Constant_str (PySem.P.le_str ⟨?_, kp _⟩)))
    show Value.bool _ = Value.bool ((!decide ((Str.mk #[c]).cps.toList < lo.cps.toList)) && _)
    rw [hb, Bool.true_and]
def rowB (z : Str) : Bool := z.cps.toList.all fun c => !decide ([c] < (Str.ofString "a").cps.toList) && !decide ((Str.ofString "z").cps.toList < [c])
theorem lt_one (a b : Nat) : ([a] < [b]) ↔ a < b := by
  constructor
  · intro h
    cases h with
    | rel h => exact h
    | cons h => exact absurd h (by simp)
  · intro h; exact List.Lex.rel h
theorem mk_codeK {K : PySem.W.Frag} {c P : Addr} {oc : Value} {od : Option Addr} {vs : Array Value} {sl : Array (Option Value)} {file : Str} {tf : Tok} {flags : Int} {tg : Tok} {inF : Bool} {text : Int} {tt : Tok}
    (l : K.lookup c = some ⟨oc, od, .fields vs, sl⟩) (h1 : oc = .type "code") (h2 : vs[11]? = some (.ref P)) (h3 : vs.getD 11 .none = .ref P) (h4 : vs.getD 18 .none = .str file tf) (h5 : vs.getD 7 .none = .int flags tg) (h6 : vs.getD 9 .none = .bool inF) (h7 : vs.getD 10 .none = .int text tt) (hne : c ≠ P) : CodeK K c P :=
  ⟨⟨_, vs, file, tf, flags, tg, inF, text, tt, l, h1, rfl, h2, h3, h4, h5, h6, h7, hne⟩⟩
theorem mk_makers {q : Program} {K : PySem.W.Frag} {x : Str} {P : Addr} {r : List (Str × Addr)} {d : DefRec} {f c : Addr} {od : Option Addr} {sl : Array (Option Value)} {fd : FuncData} {oc : Value} (h1 : (recsOf q).find? (fun e => e.name == x) = some d)
    (h2 : PySem.W.nsIn K mainGlobals x = some (some (.ref f))) (h3 : K.lookup f = some ⟨oc, od, .func fd, sl⟩) (h4 : fd.code = .ref c) (h5 : CodeK K c P) (h6 : K.lookup P = none) (h7 : Makers q K r) : Makers q K ((x, P) :: r) :=
  ⟨⟨d, f, c, od, sl, fd, oc, h1, h2, h3, h4, h5, h6⟩, h7⟩
def spIsRow (K : PySem.W.Frag) (P : Addr) : Sp := fun vs H Q _ => ∃ x, vs = [x] ∧ ((∃ z : Str, x = .str z ∧ H P = some (.ext (TabP P)) ∧ Q (.bl (rowB z)) H) ∨ (IsI K H x "str" false ∧ Q (.bl false) H))
end L2
set_option Elab.async false
set_option linter.all false
set_option maxRecDepth 100000
namespace L2
open PySem PySem.Spec PyProof.Rows
/-- what an element knows of the def around it -/
structure Out (X : Cx) (σ : St) (H : Hp) (h : Heap) : Prop where
  hok : HOk X.prog X.w H h
  kin : X.K.In h
  cel : ∀ (i : Nat) (y : Str) (v : V), X.N[i]? = some y → σ[i]? = some (some v) → X.env.scope.names.lookup y = some .cell → ∃ u c, RelV v u ∧ X.env.cells.lookup y = some c ∧ h.IsCell c (some u)
theorem Out.kept {X : Cx} {σ : St} {H : Hp} {h h' : Heap} (O : Out X σ H h) (k : ∀ b o, h.get? b = some o → h'.get? b = some o) : Out X σ H h' :=
  ⟨O.hok.kept k, fun b o e => k b o (O.kin b o e), fun i y v h1 h2 h3 => let ⟨u, c, r, e, o, ho, hd⟩ := O.cel i y v h1 h2 h3; ⟨u, c, r, e, o, k _ _ ho, hd⟩⟩
/-- locals of an element -/
abbrev LV := Str → Option V
abbrev TG2 := LV → St → Hp → (V → Prop) → Prop
/-- an element's rule -/
def GE (X : Cx) (scope : Scope) (cl : List (Str × Addr)) (U : Nat) (e : Expr) (t : TG2) : Prop :=
  ∀ (A' : Around) (E' : Value → Shared → Prop) (C : Addr) (code : Value) (s₂ : Shared) (m₂ : Str → Option Value) (lv : LV) (σ : St) (H : Hp) (R : V → Prop), A'.handled = none → A'.units ≤ U → Out X σ H s₂.heap → s₂.heap.Ns C m₂ → (∀ y v, lv y = some v → ∃ u, RelV v u ∧ m₂ y = some u) → t lv σ H R →
    wpAny (model X.prog X.w) A' (eval e (genEnv scope cl C code builtinsNs X.env)) (fun y s₃ => (∃ v, RelV v y ∧ R v) ∧ Keeps s₂ s₃) E' s₂
def gLoc (x : Str) : TG2 := fun lv _ _ R => ∃ v, lv x = some v ∧ R v
def gFree (i : Nat) : TG2 := fun _ σ _ R => ∃ v, σ[i]? = some (some v) ∧ R v
def gInt (n : Int) : TG2 := fun _ _ _ R => R (.int n)
def gOp (r : V → V → Hp → (V → Prop) → Prop) (a b : TG2) : TG2 := fun lv σ H R => a lv σ H fun x => b lv σ H fun y => r x y H R
section
variable {X : Cx} {scope : Scope} {cl : List (Str × Addr)} {U : Nat} {a b : Expr} {ta tb : TG2}
theorem Keeps_tok (s : Shared) (t : Nat) : Keeps s { s with toks := t } := ⟨s.heap, t, rfl, fun _ _ e => e⟩
theorem ge_int {n : Int} {k : Nat} {pos : Pos} : GE X scope cl U (.Constant (.int n) k pos) (gInt n) := by
  intro A' E' C code s₂ m₂ lv σ H R hA hU O hn hl r
  exact wpAny_Constant_int ⟨⟨.int n, ⟨_, rfl⟩, r⟩, Keeps_tok _ _⟩
def gLtS : V → V → Hp → (V → Prop) → Prop := fun x y _ R => ∃ i j, x = .str i ∧ y = .str j ∧ R (.bl (decide (i.cps.toList < j.cps.toList)))
def gAdd : V → V → Hp → (V → Prop) → Prop := fun x y _ R => ∃ i j, x = .int i ∧ y = .int j ∧ R (.int (i + j))
def gIn : V → V → Hp → (V → Prop) → Prop := fun x y H R => ∃ c : Nat, x = .str (sg c) ∧ ((∃ z, y = .str z ∧ R (.bl (decide (c ∈ z.cps.toList)))) ∨ ∃ d kvs, y = .ref d ∧ Rd H d (.dK kvs) ∧ R (.bl (valV kvs (Sum.inr (sg c))).isSome))
def gIxS : V → V → Hp → (V → Prop) → Prop := fun x y _ R => ∃ z i c, x = .str z ∧ y = .int i ∧ z.length ≤ sizeLine ∧ atI z.cps.toList i = some c ∧ R (.str (sg c))
def gIxL (K : PySem.W.Frag) : V → V → Hp → (V → Prop) → Prop := fun x y H R => ∃ p xs i v, x = .ref p ∧ y = .int i ∧ SqL K H p xs ∧ 0 ≤ i ∧ atI xs i = some v ∧ R v
theorem Out.list {σ : St} {H : Hp} {h : Heap} {l : Addr} {xs : List V} (O : Out X σ H h) (q : SqL X.K H l xs) : ∃ its : List Value, Vals xs its ∧ PlainL h l its.toArray ∧ xs.length ≤ sizeLine := by
  rcases q with q | ⟨o, its, n, hk, hc, hd, hs, hz, r⟩
  · obtain ⟨z, its, n, r, e⟩ := q.ok O.hok
    exact ⟨its, r, ⟨_, n, e, rfl, rfl, rfl⟩, z⟩
  · refine ⟨its.toList, r, ⟨o, n, O.kin l o hk, hc, hd, by simpa using hs⟩, ?_⟩
    have e := r.length
    simp only [Array.length_toList] at e
    omega
end
end L2
set_option Elab.async false
set_option linter.all false
set_option maxRecDepth 100000
namespace L2
open PySem PySem.Spec PyProof.Rows
abbrev TIG := St → Hp → (Nat → (Nat → Option V) → Hp → Prop) → Prop
def PIG (X : Cx) (iter : Expr) (ti : TIG) : Prop :=
  ∀ (pins : List (Addr × Obj)) (s : Shared) (σ : St) (H : Hp) (R : Nat → (Nat → Option V) → Hp → Prop), Inv X pins σ H s → ti σ H R →
    wpAny (model X.prog X.w) X.A (eval iter X.env) (fun xv s1 => wpAny (model X.prog X.w) X.A (pyIter xv) (fun it s2 => ∃ (I : Addr) (fp : List Addr) (n : Nat) (Pv : Nat → Value → Prop) (St₀ : Nat → Heap → Prop) (vi : Nat → Option V) (H1 : Hp),
      it = .ref I ∧ Inv X pins σ H1 s2 ∧ FpOk X pins H1 I ∧ (∀ b ∈ fp, b < s2.heap.objs.size) ∧ (∀ b ∈ fp, ∀ P, H1 b = some (.ext (TabP P)) → False) ∧ (∀ A' : Around, A'.handled = none → Walks X.prog X.w A' I fp [I] n Pv St₀) ∧ St₀ 0 s2.heap ∧ (∀ i u, Pv i u → ∃ y, vi i = some y ∧ RelV y u) ∧ R n vi H1) X.xe s1) X.xe s
abbrev lv1 (x : Str) (v : V) : LV := fun y => if y = x then some v else none
def tAllG (P : Addr) (ti : TIG) (x : Str) (t : TG2) : TE := fun σ H Q => ti σ H fun n vi H1 => H1 P = some (.ext (TabP P)) ∧ ∃ pr : Nat → Bool, (∀ i y, i < n → vi i = some y → t (lv1 x y) σ H1 fun r => r = .bl (pr i)) ∧ Q (.bl ((List.range n).all pr)) H1
section
variable {X : Cx} {elt iter : Expr} {ti : TIG} {t : TG2} {x : Str} {px p gpos pos : Pos} {scope : Scope} {cl : List (Str × Addr)} {c P : Addr} {k : Nat}
end
section
variable {X : Cx} {e : Expr} {te : TE}
def iGStr (te : TE) : TIG := fun σ H R => te σ H fun v H1 => ∃ z : Str, v = .str z ∧ R z.cps.toList.length (fun i => z.cps.toList[i]?.map fun c => V.str (sg c)) H1
def iGRng (ta : TA) : TIG := fun σ H R => ta σ H fun vs H1 => ∃ j : Int, vs = [.int j] ∧ -(2 ^ 62) ≤ j ∧ j < 2 ^ 62 ∧ R j.toNat (fun i => some (.int (i : Int))) H1
end
end L2
set_option Elab.async false
set_option linter.all false
set_option maxRecDepth 100000
namespace L2
open PySem PySem.Spec PyProof.Rows
abbrev TIU := St → Hp → (List (V × V) → Hp → Prop) → Prop
def PIU (X : Cx) (iter : Expr) (ti : TIU) : Prop :=
  ∀ (pins : List (Addr × Obj)) (s : Shared) (σ : St) (H : Hp) (R : List (V × V) → Hp → Prop), Inv X pins σ H s → ti σ H R →
    wpAny (model X.prog X.w) X.A (eval iter X.env) (fun xv s1 => wpAny (model X.prog X.w) X.A (pyIter xv) (fun it s2 => ∃ (I : Addr) (fp : List Addr) (Pt : Nat → Array Value → Prop) (St₀ : Nat → Heap → Prop) (Mid : Nat → Addr → Heap → Prop) (kvs : List (V × V)) (H1 : Hp),
      it = .ref I ∧ Inv X pins σ H1 s2 ∧ FpOk X pins H1 I ∧ (∀ b ∈ fp, b < s2.heap.objs.size) ∧ (∀ b ∈ fp, ∀ P, H1 b = some (.ext (TabP P)) → False) ∧ (∀ A' : Around, A'.handled = none → WalksU X.prog X.w A' I fp [I] kvs.length Pt St₀ Mid) ∧ St₀ 0 s2.heap ∧
        (∀ i vals, Pt i vals → ∃ x y u v, kvs[i]? = some (x, y) ∧ RelV x u ∧ RelV y v ∧ vals = #[u, v]) ∧ R kvs H1) X.xe s1) X.xe s
abbrev lv2 (xa : Str) (x : V) (xb : Str) (y : V) : LV := fun z => if z = xa then some x else if z = xb then some y else none
def tSumG (P : Addr) (ti : TIU) (xa xb : Str) (tt te : TG2) : TE := fun σ H Q => ti σ H fun kvs H1 => H1 P = some (.ext (TabP P)) ∧ ∃ (pz : Nat → Bool) (val : Nat → Int),
  (∀ i x y, kvs[i]? = some (x, y) → (tt (lv2 xa x xb y) σ H1 fun r => r = .bl (pz i)) ∧ (pz i = true → te (lv2 xa x xb y) σ H1 fun r => r = .int (val i))) ∧ Q (.int (((List.range kvs.length).filter pz).map val).sum) H1
section
variable {X : Cx} {elt iter cond : Expr} {ti : TIU} {t tt : TG2} {xa xb : Str} {pa pb pt p gpos pos : Pos} {kt : Nat} {scope : Scope} {cl : List (Str × Addr)} {c P : Addr} {k : Nat}
end
section
variable {X : Cx} {e : Expr} {td : TE} {apos cpos : Pos}
def iGItems (td : TE) : TIU := fun σ H R => td σ H fun x H1 => ∃ d kvs, x = .ref d ∧ H1 d = some (.dK kvs) ∧ R (kvs.map fun kv => (kV kv.1, kv.2)) H1
end
end L2
set_option Elab.async false
set_option linter.all false
set_option maxRecDepth 100000
set_option maxHeartbeats 1600000
namespace L2
open PySem PySem.Spec PyProof.Rows
/-- elder generators as they were, newer ones bare -/
structure Gro (a b : Array GenState) : Prop where
  le : a.size ≤ b.size
  old : ∀ k, k < a.size → b[k]? = a[k]?
  new : ∀ k x, a.size ≤ k → b[k]? = some x → x.bare = true
theorem Gro.refl (a : Array GenState) : Gro a a := ⟨Nat.le_refl _, fun _ _ => rfl, fun k x h e => by rw [Array.getElem?_eq_none h] at e; cases e⟩
theorem Gro.trans {a b c : Array GenState} (x : Gro a b) (y : Gro b c) : Gro a c :=
  ⟨Nat.le_trans x.le y.le, fun k h => (y.old k (Nat.lt_of_lt_of_le h x.le)).trans (x.old k h), fun k z h e => by
    rcases Nat.lt_or_ge k b.size with q | q
    · rw [y.old k q] at e; exact x.new k z h e
    · exact y.new k z q e⟩
/-- what a step keeps: things (but the table at T, which grows), and elder generators -/
def KeepsG (T : Addr) (s t : Shared) : Prop := ∃ h tk gs, t = { s with heap := h, toks := tk, gens := gs } ∧ Gro s.gens gs ∧ (∀ b o, b ≠ T → s.heap.get? b = some o → h.get? b = some o) ∧ (TabP T s.heap → TabP T h)
theorem KeepsG.refl (T : Addr) (s : Shared) : KeepsG T s s := ⟨s.heap, s.toks, s.gens, rfl, Gro.refl _, fun _ _ _ e => e, id⟩
theorem KeepsG.trans {T : Addr} {s t u : Shared} (x : KeepsG T s t) (y : KeepsG T t u) : KeepsG T s u := by
  obtain ⟨h1, t1, g1, rfl, a1, k1, p1⟩ := x
  obtain ⟨h2, t2, g2, rfl, a2, k2, p2⟩ := y
  exact ⟨h2, t2, g2, rfl, a1.trans a2, fun b o n e => k2 b o n (k1 b o n e), fun z => p2 (p1 z)⟩
theorem tabP_keeps {T : Addr} {h h' : Heap} (k : ∀ o, h.get? T = some o → h'.get? T = some o) (z : TabP T h) : TabP T h' := by
  obtain ⟨ps, e, r⟩ := z
  exact ⟨ps, k _ e, r⟩
theorem KeepsG.of {T : Addr} {s t : Shared} (x : Keeps s t) : KeepsG T s t := by
  obtain ⟨h, tk, rfl, k⟩ := x
  exact ⟨h, tk, s.gens, rfl, Gro.refl _, fun b o _ e => k b o e, tabP_keeps (k T)⟩
theorem keepsG_tok (T : Addr) (s : Shared) (t : Nat) : KeepsG T s { s with toks := t } := ⟨s.heap, t, s.gens, rfl, Gro.refl _, fun _ _ _ e => e, id⟩
/-- since a time, but the things at C, at wr and the table at T -/
def SinceG (C T : Addr) (wr : List Addr) (s t : Shared) : Prop := ∃ h tk gs, t = { s with heap := h, toks := tk, gens := gs } ∧ Gro s.gens gs ∧ ∀ b o, b ≠ C → b ≠ T → b ∉ wr → s.heap.get? b = some o → h.get? b = some o
theorem SinceG.refl (C T : Addr) (wr : List Addr) (s : Shared) : SinceG C T wr s s := ⟨s.heap, s.toks, s.gens, rfl, Gro.refl _, fun _ _ _ _ _ e => e⟩
theorem SinceG.step {C T : Addr} {wr : List Addr} {s t : Shared} (x : SinceG C T wr s t) {h : Heap} {tk : Nat} {gs : Array GenState} (g : Gro t.gens gs) (k : ∀ b o, b ≠ C → b ≠ T → b ∉ wr → t.heap.get? b = some o → h.get? b = some o) :
    SinceG C T wr s { t with heap := h, toks := tk, gens := gs } := by
  obtain ⟨h1, t1, g1, rfl, a1, k1⟩ := x
  exact ⟨h, tk, gs, rfl, a1.trans g, fun b o n nt m e => k b o n nt m (k1 b o n nt m e)⟩
theorem SinceG.step0 {C T : Addr} {wr : List Addr} {s t : Shared} (x : SinceG C T wr s t) {h : Heap} {tk : Nat} (k : ∀ b o, b ≠ C → b ≠ T → b ∉ wr → t.heap.get? b = some o → h.get? b = some o) : SinceG C T wr s { t with heap := h, toks := tk } := x.step (Gro.refl _) k
/-- what a generator over n things yields: the i-th, as F says -/
def protoG (C T : Addr) (fp wr : List Addr) (n : Nat) (F : Nat → Value → Prop) : Protocol := fun m s v t kap =>
  (∃ i, i + m + 1 = n ∧ F i v) ∧ SinceG C T wr s t ∧ TabP T t.heap ∧ ∀ u : Shared, (∀ b ∈ C :: fp, ∀ o, t.heap.get? b = some o → u.heap.get? b = some o) → kap (.send .none) u
/-- the elements keep what stood before -/
def QuietG (P : Program) (w : World) (T : Addr) (ce : Env) (x : Str) (elt : Expr) (fp wr : List Addr) (I : Nat → Value → Prop) (F : Nat → Value → Prop) (hr : Heap) (D U : Nat) : Prop :=
  ∀ (A : Around) (E : Value → Shared → Prop) (i : Nat) (v : Value) (s : Shared) (m : Str → Option Value), A.handled = none → A.depth ≤ D → A.units ≤ U → I i v → s.heap.Ns ce.locals m → m x = some v →
    (∀ b ∈ fp, b ∉ wr → b ≠ T → ∀ o, hr.get? b = some o → s.heap.get? b = some o) → TabP T s.heap → wpAny (model P w) A (eval elt ce) (fun y t => F i y ∧ KeepsG T s t) E s
abbrev gx (elt : Expr) (x : Str) (px : Pos) (iter : Expr) (sc : Scope) (pos : Pos) : Expr := .GeneratorExp elt [⟨.Name x px, iter, [], 0⟩] sc pos
abbrev endG (C T : Addr) (wr : List Addr) : Nat → Shared → Result → Shared → Prop := fun n s r t => r = .ok .next ∧ n = 0 ∧ SinceG C T wr s t ∧ TabP T t.heap
section
variable {P : Program} {w : World} {A : Around} {elt iter : Expr} {x : Str} {px pos : Pos} {sc : Scope} {J T : Addr} {fp0 fp wr : List Addr} {n : Nat} {I : Nat → Value → Prop} {St : Nat → Heap → Prop} {ce : Env} {F : Nat → Value → Prop} {hr : Heap}
theorem loopG (hh : A.handled = none) (W : ∀ B : Around, B.handled = none → Walks P w B J fp0 wr n I St) (hf0 : ∀ b ∈ fp0, b ∈ fp) (hT0 : T ∉ fp0) (hTf : T ∈ fp) (hCT : ce.locals ≠ T) (hx : ce.kindOf x = some .local)
    (hp : (ce.scope.kind == .class || (ce.scope.kind == .module && ce.locals != ce.globals)) = false) (hco : ce.scope.isCoroutine = false) (hC : ce.locals ∉ fp) (hq : QuietG P w T ce x elt fp wr I F hr (A.depth + 1) (A.units + 3)) :
    ∀ (k i : Nat) (s t : Shared) (m : Str → Option Value), n - i = k → i ≤ n → St i t.heap → t.heap.Ns ce.locals m → SinceG ce.locals T wr s t → (∀ b ∈ fp, b ∉ wr → b ≠ T → ∀ o, hr.get? b = some o → t.heap.get? b = some o) → TabP T t.heap →
      Seg (model P w) A (endG ce.locals T wr) (protoG ce.locals T fp wr n F) k s (.compLoop (gx elt x px iter sc pos) 0 (.ref J) .none ce) ((model P w).den (.compLoop (gx elt x px iter sc pos) 0 (.ref J) .none ce)) [] t := by
  have hA : (A.over (.compLoop (gx elt x px iter sc pos) 0 (.ref J) .none ce) []).handled = none := hh
  have hw : ce.locals ∉ wr := fun h => hC (hf0 _ ((W A hh).sub _ h))
  have hTw : T ∉ wr := fun h => hT0 ((W A hh).sub _ h)
  intro k
  induction k with
  | zero =>
    intro i s t m hk hi st ns since keep tab
    obtain rfl : i = n := by omega
    show Seg _ A _ _ _ s _ ((compTurn (gx elt x px iter sc pos) 0 (.ref J) .none ce).onRaise (leaving ce)) [] t
    rw [compTurn_gen, Sem.onRaise_eq_wrap]
    apply seg_bind_wrap
    apply wpAny_standAt
    apply seg_bind_wrap
    apply (W _ hA).done t _ _ st
    intro h' tk hk'
    exact seg_end (.ok .next) ⟨rfl, rfl, since.step0 fun b o _ _ nb e => hk' b o nb e, tabP_keeps (fun o e => hk' T o hTw e) tab⟩
  | succ k ih =>
    intro i s t m hk hi st ns since keep tab
    have hlt : i < n := by omega
    show Seg _ A _ _ _ s _ ((compTurn (gx elt x px iter sc pos) 0 (.ref J) .none ce).onRaise (leaving ce)) [] t
    rw [compTurn_gen, Sem.onRaise_eq_wrap]
    apply seg_bind_wrap
    apply wpAny_standAt
    apply seg_bind_wrap
    apply (W _ hA).item i t _ _ hlt st
    intro v h1 tk1 hv st1 k1
    apply seg_bind_wrap
    refine wpAny_of_eq (rfl : letOwnedTupleGo (.Name x px) (.ref J) v = pure ()) ?_
    apply seg_bind_wrap
    refine wpAny_assign_Name (wpAny_storeName_local hx (ns.at' fun o e => k1 _ o hw e) (fun h2 ns2 sb => ?_) hp)
    have up2 : ∀ b o, b ≠ ce.locals → b ∉ wr → t.heap.get? b = some o → h2.get? b = some o := fun b o nb nw e => sb.extBut b o nb (k1 b o nw e)
    have st2 : St (i + 1) h2 := (W A hh).frame _ _ _ st1 fun b hb o e => sb.extBut b o (fun z => hC (hf0 _ (z ▸ hb))) e
    have keep2 : ∀ b ∈ fp, b ∉ wr → b ≠ T → ∀ o, hr.get? b = some o → h2.get? b = some o := fun b hb nw nt o e => up2 b o (fun z => hC (z ▸ hb)) nw (keep b hb nw nt o e)
    have tab2 : TabP T h2 := tabP_keeps (fun o e => up2 T o hCT.symm hTw e) tab
    apply seg_bind_wrap
    refine wpAny_of_eq (a := true) rfl ?_
    simp only [if_true]
    have hy : ∀ v, yieldOut ce v = yieldValue v := fun v => by simp only [yieldOut, hco, Bool.false_eq_true, if_false]
    simp only [hy]
    rw [Sem.bind_eq_wrap', Sem.bind_eq_wrap', Sem.wrap_wrap, Sem.wrap_wrap]
    apply seg_wrap
    refine wpAny_mono (hq _ (fun _ _ => False) i v _ _ hA (Nat.le_of_eq rfl) (Nat.le_of_eq rfl) hv ns2 (by simp) keep2 tab2) (fun y t4 h4 => ?_) fun _ _ e => False.elim e
    obtain ⟨fy, h4, tk4, gs4, rfl, gr4, k4, p4⟩ := h4
    have tab4 := p4 tab2
    apply seg_at
    refine seg_yield rfl rfl rfl ⟨⟨i, by omega, fy⟩, since.step gr4 fun b o nb nt nw e => k4 b o nt (up2 b o nb nw e), tab4, fun u hu => ?_⟩
    have ne0 : ∀ b ∈ fp0, b ≠ T := fun b hb z => hT0 (z ▸ hb)
    refine seg_again rfl (ih (i + 1) u u _ (by omega) hlt ((W A hh).frame _ _ _ st2 fun b hb o e => hu b (List.mem_cons_of_mem _ (hf0 _ hb)) o (k4 b o (ne0 b hb) e)) ((ns2.at' fun o e => k4 _ o hCT e).at' fun o e => hu _ (List.mem_cons_self ..) o e) (SinceG.refl _ _ _ _) (fun b hb nw nt o e => ?_) (tabP_keeps (fun o e => hu T (List.mem_cons_of_mem _ hTf) o e) tab4))
    exact hu b (List.mem_cons_of_mem _ hb) o (k4 b o nt (keep2 b hb nw nt o e))
theorem startG (hh : A.handled = none) (W : ∀ B : Around, B.handled = none → Walks P w B J fp0 wr n I St) (hf0 : ∀ b ∈ fp0, b ∈ fp) (hT0 : T ∉ fp0) (hTf : T ∈ fp) (hCT : ce.locals ≠ T) (hx : ce.kindOf x = some .local)
    (hp : (ce.scope.kind == .class || (ce.scope.kind == .module && ce.locals != ce.globals)) = false) (hco : ce.scope.isCoroutine = false) (hC : ce.locals ∉ fp) (hq : QuietG P w T ce x elt fp wr I F hr (A.depth + 1) (A.units + 3))
    (t : Shared) (m : Str → Option Value) (st : St 0 t.heap) (ns : t.heap.Ns ce.locals m) (keep : ∀ b ∈ fp, b ∉ wr → b ≠ T → ∀ o, hr.get? b = some o → t.heap.get? b = some o) (tab : TabP T t.heap) :
    Seg (model P w) A (endG ce.locals T wr) (protoG ce.locals T fp wr n F) n t (.compStart (gx elt x px iter sc pos) 0 (.ref J) .none ce) ((model P w).den (.compStart (gx elt x px iter sc pos) 0 (.ref J) .none ce)) [] t := by
  have hA : (A.over (.compStart (gx elt x px iter sc pos) 0 (.ref J) .none ce) []).handled = none := hh
  have loop := loopG (iter := iter) (px := px) (sc := sc) (pos := pos) hh W hf0 hT0 hTf hCT hx hp hco hC hq n 0 t t m rfl (Nat.zero_le _) st ns (SinceG.refl _ _ _ _) keep tab
  show Seg _ A _ _ _ t _ ((compStart (gx elt x px iter sc pos) 0 (.ref J) .none ce).onRaise (leaving ce)) [] t
  unfold compStart
  rw [Sem.onRaise_eq_wrap]
  show Seg _ A _ _ _ t _ ((ask >>= _).wrap _ _ _ _) [] t
  apply seg_bind_wrap
  apply wpAny_askSetting
  split
  · exact seg_again rfl loop
  · apply seg_bind_wrap
    apply wpAny_rule
    show Seg _ A _ _ _ t _ ((standAt iter.pos >>= _).wrap _ _ _ _) [] t
    apply seg_bind_wrap
    apply wpAny_standAt
    apply seg_bind_wrap
    exact (W _ hA).self 0 t _ _ st (seg_again rfl loop)
/-- the generator at a, numbered g, before its j-th item -/
def AtG (P : Program) (w : World) (A : Around) (T a : Addr) (g : Nat) (C : Addr) (fp wr : List Addr) (n : Nat) (F : Nat → Value → Prop) (j : Nat) (s : Shared) : Prop :=
  s.heap.IsGen a g ∧ s.heap.NoLimit ∧ TabP T s.heap ∧ ∃ gs, s.gens[g]? = some gs ∧ ∀ u : Shared, (∀ b ∈ C :: fp, ∀ o, s.heap.get? b = some o → u.heap.get? b = some o) → gs.Goes (model P w) A.in1 (endG C T wr) (protoG C T fp wr n F) (n - j) (.send .none) u
/-- what a walk does to the generators: elder ones but g as they were -/
structure OnlyG (g : Nat) (a b : Array GenState) : Prop where
  le : a.size ≤ b.size
  old : ∀ k, k < a.size → k ≠ g → b[k]? = a[k]?
  at_ : b = a ∨ ∀ x, b[g]? = some x → x.bare = true
  new : ∀ k x, a.size ≤ k → b[k]? = some x → x.bare = true
theorem OnlyG.refl (g : Nat) (a : Array GenState) : OnlyG g a a := ⟨Nat.le_refl _, fun _ _ _ => rfl, .inl rfl, fun k x h e => by rw [Array.getElem?_eq_none h] at e; cases e⟩
theorem OnlyG.trans {g : Nat} {a b c : Array GenState} (x : OnlyG g a b) (y : OnlyG g b c) : OnlyG g a c := by
  refine ⟨Nat.le_trans x.le y.le, fun k h n => (y.old k (Nat.lt_of_lt_of_le h x.le) n).trans (x.old k h n), ?_, fun k z h e => ?_⟩
  · rcases y.at_ with q | q
    · rw [q]; exact x.at_
    · exact .inr q
  · rcases Nat.lt_or_ge k b.size with q | q
    · by_cases hk : k = g
      · subst hk
        rcases y.at_ with r | r
        · rw [r] at e; exact x.new k z h e
        · exact r z e
      · rw [y.old k q hk] at e; exact x.new k z h e
    · exact y.new k z q e
theorem OnlyG.bare {g : Nat} {a b : Array GenState} (x : OnlyG g a b) (ha : AllBare a) : AllBare b := by
  intro y hy
  obtain ⟨i, hi, rfl⟩ := Array.mem_iff_getElem.mp hy
  rcases Nat.lt_or_ge i a.size with q | q
  · by_cases e : i = g
    · rcases x.at_ with r | r
      · have e2 : b[i] = a[i] := by
          have := congrArg (fun z : Array GenState => z[i]?) r
          rw [Array.getElem?_eq_getElem hi, Array.getElem?_eq_getElem q] at this
          exact Option.some.inj this
        rw [e2]; exact ha _ (Array.getElem_mem q)
      · exact r _ (by rw [← e]; exact Array.getElem?_eq_getElem hi)
    · have h1 := x.old i q e
      rw [Array.getElem?_eq_getElem hi, Array.getElem?_eq_getElem q] at h1
      rw [Option.some.inj h1]; exact ha _ (Array.getElem_mem q)
  · exact x.new i _ q (Array.getElem?_eq_getElem hi)
theorem set_size (s : Shared) (g : Nat) (x : GenState) : (s.setGen g x).gens.size = s.gens.size := by simp [Shared.setGen]
theorem set_else (s : Shared) (g : Nat) (x : GenState) {k : Nat} (h : k ≠ g) : (s.setGen g x).gens[k]? = s.gens[k]? := by simp [Shared.setGen, Ne.symm h]
theorem set_here (s : Shared) {g : Nat} (x : GenState) (h : g < s.gens.size) : (s.setGen g x).gens[g]? = some x := by simp [Shared.setGen, h]
/-- running, grown, set again -/
theorem onlyG_of {s : Shared} {g : Nat} {h1 : Heap} {tk1 : Nat} {gs1 : Array GenState} {x y : GenState} (hg : g < s.gens.size) (gr : Gro (s.setGen g x).gens gs1) (hy : y.bare = true) :
    OnlyG g s.gens (({ s.setGen g x with heap := h1, toks := tk1, gens := gs1 } : Shared).setGen g y).gens := by
  have hsz := set_size s g x
  have hz : (({ s.setGen g x with heap := h1, toks := tk1, gens := gs1 } : Shared).setGen g y).gens.size = gs1.size := set_size _ _ _
  have hle := gr.le
  refine ⟨by rw [hz]; omega, fun k hk n => ?_, .inr fun z e => ?_, fun k z hk e => ?_⟩
  · rw [set_else _ _ _ n]
    show gs1[k]? = _
    rw [gr.old k (by omega), set_else _ _ _ n]
  · rw [set_here _ y (show g < gs1.size by omega)] at e
    cases e; exact hy
  · have hn : k ≠ g := by omega
    rw [set_else _ _ _ hn] at e
    exact gr.new k z (by omega) e
/-- moved so: but for the things at C and wr and the table at T, which stays one -/
structure MovT (C T : Addr) (wr : List Addr) (g : Nat) (s t : Shared) : Prop where
  mv : Moved (C :: T :: wr) (OnlyG g) s t
  tb : TabP T t.heap
/-- a walk, told by its two turns; M: what each does -/
structure WalkT (P : Program) (w : World) (A : Around) (J : Addr) (n : Nat) (F : Nat → Value → Prop) (St : Nat → Shared → Prop) (M : Shared → Shared → Prop) : Prop where
  more : ∀ a b c, M a b → M b c → M a c
  turn : ∀ (j : Nat) (u : Shared) (Z : Option Value → Shared → Prop) (X : Value → Shared → Prop), St j u → j < n → (∀ y t, M u t → F j y → St (j + 1) t → Z (some y) t) → wpAny (model P w) A (pyNext (.ref J)) Z X u
  stop : ∀ (u : Shared) (Z : Option Value → Shared → Prop) (X : Value → Shared → Prop), St n u → (∀ t, M u t → Z none t) → wpAny (model P w) A (pyNext (.ref J)) Z X u
  same : ∀ (j : Nat) (u : Shared) (Z : Value → Shared → Prop) (X : Value → Shared → Prop), St j u → Z (.ref J) u → wpAny (model P w) A (pyIter (.ref J)) Z X u
theorem WalkT.up {J : Addr} {F : Nat → Value → Prop} {St : Nat → Shared → Prop} {M : Shared → Shared → Prop} (W : WalkT P w A.in1 J n F St M) : WalkT P w A J n F St M :=
  ⟨W.more, fun j u Z X st hj h => wpAny_of_in1 (W.turn j u Z X st hj h), fun u Z X st h => wpAny_of_in1 (W.stop u Z X st h), fun j u Z X st h => wpAny_of_in1 (W.same j u Z X st h)⟩
theorem walksG (hh : A.handled = none) (T a : Addr) (g : Nat) (C : Addr) (fp wr : List Addr) (n : Nat) (F : Nat → Value → Prop) (haC : a ≠ C) (haf : a ∉ fp) (hsub : ∀ b ∈ wr, b ∈ fp) (room : A.depth < recursionLimit)
    (hcs : cStatics ∈ fp) (hcC : cStatics ≠ C) (hcw : cStatics ∉ wr) (hcT : cStatics ≠ T) (hTf : T ∈ fp) : WalkT P w A a n F (AtG P w A T a g C fp wr n F) (MovT C T wr g) where
  more := fun _ _ _ x y => ⟨x.mv.trans (fun _ _ _ x y => x.trans y) y.mv, y.tb⟩
  turn := fun j s Q E st hj hQ => by
    obtain ⟨hg, hl, tab, gs, hgs, go⟩ := st
    have hgl : g < s.gens.size := (Array.getElem?_eq_some_iff.mp hgs).1
    obtain ⟨m, hm⟩ : ∃ m, n - j = m + 1 := ⟨n - j - 1, by omega⟩
    rw [hm] at go
    apply wpAny_with_toks (Nat.le_refl s.toks)
    refine wpAny_pyNext_genexpQ (P := fun n s t => n = 0 ∧ SinceG C T wr s t ∧ TabP T t.heap) hh hl room hg hgs (go _ fun _ _ _ e => e) (fun v s1 gs' hb hv => ?_) (fun s1 hp h' hk => ?_)
    · obtain ⟨⟨i, hi, hF⟩, ⟨h1, tk1, gs1, rfl, gr, k1⟩, tab1, hkap⟩ := hv
      obtain rfl : i = j := by omega
      have haw : a ∉ wr := fun h => haf (hsub a h)
      have haT : a ≠ T := fun h => haf (h ▸ hTf)
      intro htk
      have hg1 : g < gs1.size := by have := gr.le; rw [set_size] at this; omega
      refine hQ v _ ⟨⟨fun b o hb e => k1 b o (fun h => hb (h ▸ List.mem_cons_self ..)) (fun h => hb (h ▸ List.mem_cons_of_mem _ (List.mem_cons_self ..))) (fun h => hb (List.mem_cons_of_mem _ (List.mem_cons_of_mem _ h))) e, onlyG_of hgl gr hb, rfl, rfl, htk⟩, tab1⟩ hF ⟨?_, ?_, tab1, gs', set_here _ gs' hg1, fun u hu => ?_⟩
      · obtain ⟨o, nm, qn, ho, r⟩ := hg
        exact ⟨o, nm, qn, k1 a o haC haT haw ho, r⟩
      · obtain ⟨mc, hns, hnn⟩ := hl
        exact ⟨mc, hns.at' fun o e => k1 cStatics o hcC hcT hcw e, hnn⟩
      · have e : n - (i + 1) = m := by omega
        rw [e]
        exact hkap u hu
    · exact absurd hp.1 (Nat.succ_ne_zero m)
  stop := fun s Q E st hQ => by
    obtain ⟨hg, hl, tab, gs, hgs, go⟩ := st
    have hgl : g < s.gens.size := (Array.getElem?_eq_some_iff.mp hgs).1
    rw [Nat.sub_self] at go
    apply wpAny_with_toks (Nat.le_refl s.toks)
    refine wpAny_pyNext_genexpQ (P := fun n s t => n = 0 ∧ SinceG C T wr s t ∧ TabP T t.heap) hh hl room hg hgs (go _ fun _ _ _ e => e) (fun v s1 gs' hb hv => ?_) (fun s1 hp h' hk => ?_)
    · obtain ⟨_, _, _, hkap⟩ := hv
      exact False.elim (hkap s1 fun _ _ _ e => e)
    · obtain ⟨_, ⟨h1, tk1, gs1, rfl, gr, k1⟩, tab1⟩ := hp
      intro htk
      exact hQ _ ⟨⟨fun b o hb e => hk b o (k1 b o (fun h => hb (h ▸ List.mem_cons_self ..)) (fun h => hb (h ▸ List.mem_cons_of_mem _ (List.mem_cons_self ..))) (fun h => hb (List.mem_cons_of_mem _ (List.mem_cons_of_mem _ h))) e), onlyG_of (h1 := h1) (tk1 := tk1) hgl gr (y := .finished) rfl, rfl, rfl, htk⟩, tabP_keeps (fun o e => hk T o e) tab1⟩
  same := fun _ _ _ _ st hQ => wpAny_pyIter_gen st.1 hQ
/-- all(..) over such a walk -/
theorem allT_loop {J : Addr} {St : Nat → Shared → Prop} {M : Shared → Shared → Prop} {R : Result → Shared → Prop} (W : WalkT P w A.in1 J n F St M) (pr : Nat → Bool) (hp : TruthOf P w A.in1 F pr) :
    ∀ (k j : Nat) (u : Shared), j + k = n → St j u → (∀ t, M u t → R (.ok (.ret (.bool ((List.range k).all fun i => pr (j + i))))) t) → codeAny (model P w) A (.builtin "all.loop" ⟨[.ref J], []⟩) R u := by
  intro k
  induction k with
  | zero =>
    intro j u e st h
    obtain rfl : j = n := e
    refine codeAny_builtin PySem.F.entry_all_loop ?_
    rw [Around.under_plainId PySem.F.plain_all_loop _]
    show wpAny _ A.in1 (pyNext (.ref J) >>= _) _ _ u
    apply wpAny_bind
    apply W.stop u _ _ st
    intro t mt
    exact wpAny_bind (wpAny_rule (wpAny_pure (h t mt)))
  | succ k ih =>
    intro j u e st h
    have ea : ((List.range (k + 1)).all fun i => pr (j + i)) = (pr j && (List.range k).all fun i => pr (j + 1 + i)) := by
      rw [List.range_succ_eq_map, List.all_cons, List.all_map]
      congr 2
      funext i
      show pr (j + (i + 1)) = pr (j + 1 + i)
      congr 1; omega
    rw [ea] at h
    refine codeAny_builtin PySem.F.entry_all_loop ?_
    rw [Around.under_plainId PySem.F.plain_all_loop _]
    show wpAny _ A.in1 (pyNext (.ref J) >>= _) _ _ u
    apply wpAny_bind
    apply W.turn j u _ _ st (by omega)
    intro y t mt hy st2
    apply wpAny_bind
    apply wpAny_holding
    apply hp j y _ _ _ hy
    apply wpAny_bind
    apply wpAny_letGo
    cases q : pr j with
    | true =>
      rw [if_pos rfl]
      apply wpAny_pure
      refine ⟨plainId_quiet PySem.F.plain_all_loop _, ih (j + 1) _ (by omega) st2 fun t2 m2 => ?_⟩
      have := h t2 (W.more _ _ _ mt m2)
      rw [q] at this
      exact this
    | false =>
      have := h t mt
      rw [q] at this
      rw [if_neg (by decide)]
      first
        | exact wpAny_rule (wpAny_pure this)
        | exact (fun _ _ _ => this)
theorem callT_all {E : Value → Shared → Prop} {s : Shared} {x : Value} {Q : Value → Shared → Prop}
    (h : wpAny (model P w) A.in1 (pyIter x) (fun it u => ∃ J n F St M pr, it = .ref J ∧ WalkT P w A.in1 J n F St M ∧ St 0 u ∧ TruthOf P w A.in1 F pr ∧ ∀ t, M u t → Q (.bool ((List.range n).all pr)) t) E s) :
    wpAny (model P w) A (call (.builtin "all") [x]) Q E s := by
  refine call_function_tree PySem.F.kind_all PySem.F.plain_all PySem.F.entry_all (PySem.F.args_all1 _) ?_
  unfold Builtin.«all»
  refine wpAny_bind (m := oneArg "all" _) (wpAny_pure ?_)
  apply wpAny_bind
  refine wpAny_mono h (fun it u hu => ?_) fun _ _ e => e
  obtain ⟨J, n, F, St, M, pr, rfl, W, st, hp, q⟩ := hu
  refine wpAny_pure ⟨plainId_quiet PySem.F.plain_all_loop _, allT_loop W pr hp n 0 u (Nat.zero_add n) st fun t mt => ?_⟩
  have := q t mt
  simpa only [Nat.zero_add] using this
theorem freshG {a : Addr} {g : Nat} (hh : A.handled = none) (W : ∀ B : Around, B.handled = none → Walks P w B J fp0 wr n I St) (hf0 : ∀ b ∈ fp0, b ∈ fp) (hT0 : T ∉ fp0) (hTf : T ∈ fp) (hCT : ce.locals ≠ T) (hx : ce.kindOf x = some .local)
    (hp : (ce.scope.kind == .class || (ce.scope.kind == .module && ce.locals != ce.globals)) = false) (hco : ce.scope.isCoroutine = false) (hC : ce.locals ∉ fp) {s : Shared} {m : Str → Option Value} (hq : QuietG P w T ce x elt fp wr I F s.heap (A.depth + 1) (A.units + 4))
    (hg : s.heap.IsGen a g) (hgs : s.gens[g]? = some (.fresh (.compStart (gx elt x px iter sc pos) 0 (.ref J) .none ce))) (st : St 0 s.heap) (ns : s.heap.Ns ce.locals m) (hl : s.heap.NoLimit) (tab : TabP T s.heap) : AtG P w A T a g ce.locals fp wr n F 0 s := by
  refine ⟨hg, hl, tab, _, hgs, fun u hu => ⟨rfl, ?_⟩⟩
  exact startG (A := A.in1) hh W hf0 hT0 hTf hCT hx hp hco hC hq u m ((W A hh).frame _ _ _ st fun b hb o e => hu b (List.mem_cons_of_mem _ (hf0 _ hb)) o e) (ns.at' fun o e => hu _ (List.mem_cons_self ..) o e) (fun b hb _ _ o e => hu b (List.mem_cons_of_mem _ hb) o e) (tabP_keeps (fun o e => hu T (List.mem_cons_of_mem _ hTf) o e) tab)
end
section
variable {P : Program} {w : World} {A : Around} {E : Value → Shared → Prop} {s : Shared}
theorem genexpG {T : Addr} {env : Env} {elt iter : Expr} {x : Str} {px pos : Pos} {sc : Scope} {cl : List (Str × Addr)} {Q : Value → Shared → Prop} (hh : A.handled = none) (hco : sc.isCoroutine = false) (hclos : closureFor sc env = pure cl) (hcell : ∀ y ∈ sc.names, y.2 ≠ .cell)
    (h0 : sc.names.lookup (".0" : Str) = some NameKind.local) (hx : sc.names.lookup x = some .local) (hkind : sc.kind = .function) (room : A.depth < recursionLimit)
    (h : wpAny (model P w) A (eval iter env) (fun xv s1 => wpAny (model P w) A (pyIter xv) (fun it s2 => s2.heap.NoLimit ∧
      wpAny (model P w) A (genexprCode env pos (env.qual ++ "<genexpr>") sc) (fun code s3 => wpAny (model P w) A (builtinsFor env.globals env.builtins) (fun bi s4 =>
        ∃ J fp wr n I St F, it = .ref J ∧ (∀ B : Around, B.handled = none → Walks P w B J fp wr n I St) ∧ St 0 s4.heap ∧ (∀ b ∈ fp, b < s4.heap.objs.size) ∧ s4.heap.NoLimit ∧ cStatics ∉ wr ∧ TabP T s4.heap ∧ T ∉ fp ∧ cStatics ≠ T ∧
          (∀ hr : Heap, (∀ b o, s4.heap.get? b = some o → hr.get? b = some o) → QuietG P w T (genEnv sc cl s4.heap.objs.size code bi env) x elt (List.range s4.heap.objs.size) wr I F hr (A.depth + 1) (A.units + 8)) ∧
          ∀ a h5 tk gs, gs.bare = true → s4.heap.objs.size < a → h5.objs.size = a + 1 → (∀ b o, s4.heap.get? b = some o → h5.get? b = some o) →
            WalkT P w A.in4 a n F (AtG P w A.in4 T a s4.gens.size s4.heap.objs.size (List.range s4.heap.objs.size) wr n F) (MovT s4.heap.objs.size T wr s4.gens.size) →
            AtG P w A.in4 T a s4.gens.size s4.heap.objs.size (List.range s4.heap.objs.size) wr n F 0 { s4 with gens := s4.gens.push gs, toks := tk, heap := h5 } →
            Q (.ref a) { s4 with gens := s4.gens.push gs, toks := tk, heap := h5 }) E s3) E s2) E s1) E s)
    (hs : ∀ x, genFold iter env x = pure x) : wpAny (model P w) A (eval (gx elt x px iter sc pos) env) Q E s := by
  refine wpAny_GeneratorExp_make hco hclos hcell h0 hkind room (wpAny_mono h (fun xv s1 h1 => wpAny_mono h1 (fun it s2 h2 => ⟨h2.1, wpAny_mono h2.2 (fun code s3 h3 => wpAny_mono h3 (fun bi s4 h4 => ?_) fun _ _ e => e) fun _ _ e => e⟩) fun _ _ e => e) fun _ _ e => e) hs
  obtain ⟨J, fp, wr, n, I, St, F, rfl, W, st, hfp, hl, hcw, tab, hTfp, hcT, hq, hQ⟩ := h4
  have hTlt : T < s4.heap.objs.size := let ⟨_, e, _⟩ := tab; Heap.lt_size e
  have hclt : cStatics < s4.heap.objs.size := let ⟨_, hn, _⟩ := hl; hn.lt
  intro h' hn' hs'
  have hsz : h'.objs.size = s4.heap.objs.size + 1 := by rw [hs'.1, Heap.size_push]
  have keep' : ∀ b o, s4.heap.get? b = some o → h'.get? b = some o := fun b o e => hs'.extBut b o (Nat.ne_of_lt (Heap.lt_size e)) (Heap.get?_push_of_some _ e)
  have hsub : ∀ b ∈ wr, b ∈ List.range s4.heap.objs.size := fun b hb => List.mem_range.mpr (hfp b ((W A hh).sub b hb))
  have haC : h'.objs.size ≠ s4.heap.objs.size := by rw [hsz]; exact Nat.succ_ne_self _
  have haf : h'.objs.size ∉ List.range s4.heap.objs.size := fun hm => by have := List.mem_range.mp hm; omega
  have keep5 : ∀ b o, s4.heap.get? b = some o → (h'.push { cls := .type "generator", data := .fields #[.int s4.gens.size 0, .str "<genexpr>" (s4.toks + 1), .str (env.qual ++ "<genexpr>") (s4.toks + 1 + 1)] }).get? b = some o := fun b o e => Heap.get?_push_of_some _ (keep' b o e)
  refine hQ _ _ _ _ rfl (by omega) (by rw [Heap.size_push]) keep5 (walksG (A := A.in4) hh T _ _ _ _ wr n F haC haf hsub room (List.mem_range.mpr hclt) (Nat.ne_of_lt hclt) hcw hcT (List.mem_range.mpr hTlt)) ?_
  have hq5 := hq _ keep5
  refine freshG (A := A.in4) (ce := genEnv sc cl s4.heap.objs.size code bi env) (m := fun y => if y = ".0" then some (.ref J) else none) hh W (fun b hb => List.mem_range.mpr (hfp b hb)) hTfp (List.mem_range.mpr hTlt) (Nat.ne_of_gt hTlt) hx (by simp [genEnv, hkind]) hco (fun hm => Nat.lt_irrefl _ (List.mem_range.mp hm)) ?_ ⟨_, _, _, Heap.get?_push_size _ rfl, rfl, rfl, rfl⟩ (Array.getElem?_push_size ..) ((W A hh).frame _ _ _ st fun b _ o e => keep5 b o e) (hn'.push _) (hl.keeps keep5) (tabP_keeps (fun o e => keep5 T o e) tab)
  exact hq5
end
end L2
set_option Elab.async false
set_option linter.all false
set_option maxRecDepth 100000
set_option maxHeartbeats 1600000
namespace L2
open PySem PySem.Spec PyProof.Rows
theorem gro_only {a b : Array GenState} {x : GenState} (hx : x.bare = true) (h : GenOnlyQ a.size (a.push x) b) : Gro a b := by
  have key : ∀ c : Array GenState, c.size = a.size + 1 → (∀ k, k ≠ a.size → c[k]? = (a.push x)[k]?) → (∀ y, c[a.size]? = some y → y.bare = true) → Gro a c := fun c hc ho hn => by
    refine ⟨by omega, fun k hk => ?_, fun k y hk e => ?_⟩
    · rw [ho k (by omega), Array.getElem?_push]
      rw [if_neg (by omega)]
    · rcases Nat.lt_or_ge a.size k with q | q
      · rw [Array.getElem?_eq_none (by omega)] at e; cases e
      · obtain rfl : k = a.size := by omega
        exact hn y e
  rcases h with rfl | ⟨⟨hs, ho⟩, hg⟩
  · exact key _ (by simp) (fun k _ => rfl) fun y e => by
      rw [Array.getElem?_push_size] at e
      cases e; exact hx
  · refine key b ?_ (fun k hk => ho k hk) hg
    rw [Array.size_push] at hs
    exact hs
/-- the base stands -/
def Stands (base : Heap) (h : Heap) : Prop := ∀ b o, base.get? b = some o → h.get? b = some o
theorem Stands.on {base : Heap} {T : Addr} {s t : Shared} (hT : base.get? T = none) (x : Stands base s.heap) (k : KeepsG T s t) : Stands base t.heap := fun b o e => by
  obtain ⟨h, tk, gs, rfl, _, kk, _⟩ := k
  exact kk b o (fun z => by rw [z, hT] at e; cases e) (x b o e)
theorem KeepsG.ns {T : Addr} {s t : Shared} {C : Addr} {m : Str → Option Value} (k : KeepsG T s t) (h : C ≠ T) (n : s.heap.Ns C m) : t.heap.Ns C m := by
  obtain ⟨hh, tk, gs, rfl, _, kk, _⟩ := k
  exact n.at' fun o e => kk C o h e
theorem KeepsG.tab {T : Addr} {s t : Shared} (k : KeepsG T s t) (h : TabP T s.heap) : TabP T t.heap := by
  obtain ⟨hh, tk, gs, rfl, _, _, p⟩ := k
  exact p h
section
variable {P : Program} {w : World} {A : Around} {E : Value → Shared → Prop} {s : Shared} {K : PySem.W.Frag} {mg : Str → Option Value} {base : Heap}
theorem low_glob {env : Env} {x : Str} {u : Value} {pos : Pos} {Q : Value → Shared → Prop} (M : Mod K mg base) (bk : Stands base s.heap) (hk : env.scope.kind = .function) (hg : env.kindOf x = some .globalImplicit) (eg : env.globals = mainGlobals) (hm : mg x = some u) (h : Q u s)
    (hd : (x == ("__debug__" : Str)) = false := by decide) : wpAny (model P w) A (eval (.Name x pos) env) Q E s :=
  Calls.Name_function_global hk hg (Calls.loadGlobal_global (by rw [eg]; exact M.glob.keeps bk) hm h) hd
theorem low_blt {env : Env} {x : Str} {u : Value} {pos : Pos} {Q : Value → Shared → Prop} (M : Mod K mg base) (bk : Stands base s.heap) (hk : env.scope.kind = .function) (hg : env.kindOf x = some .globalImplicit) (eg : env.globals = mainGlobals) (eb : env.builtins = builtinsNs) (hm : mg x = none) (hv : bootBuiltins x = some u) (h : Q u s)
    (hn : x ≠ "__name__" := by decide) (hd : (x == ("__debug__" : Str)) = false := by decide) : wpAny (model P w) A (eval (.Name x pos) env) Q E s := by
  obtain ⟨mb, h1, h2⟩ := M.blt
  exact Calls.Name_function_global hk hg (Calls.loadGlobal_builtin (by rw [eg]; exact M.glob.keeps bk) hm (by rw [eb]; exact h1.keeps bk) ((h2 x hn).trans hv) h) hd
theorem low_all {env : Env} {c T : Addr} {cl : List (Str × Addr)} {m : Str → Option Value} {xw x : Str} {z : Str} {tz : Tok} {elt : Expr} {p pw px gpos pos : Pos} {scope : Scope} {pr : Nat → Bool} {Q : Value → Shared → Prop}
    (hh : A.handled = none) (room : A.depth < recursionLimit) (M : Mod K mg base) (bm : BModB base mg) (bk : Stands base s.heap) (hT : base.get? T = none) (hk : env.scope.kind = .function) (eg : env.globals = mainGlobals) (eb : env.builtins = builtinsNs)
    (hga : env.kindOf "all" = some .globalImplicit) (hma : mg "all" = none) (hcode : env.code = .ref c) (ck : CodeK K c T) (tab : TabP T s.heap)
    (ns : s.heap.Ns env.locals m) (hxw : env.scope.names.lookup xw = some .local) (hmx : m xw = some (.str z tz))
    (hel : ElS P w (A.depth + 1) (A.units + 8) scope cl x elt env pr)
    (h : ∀ t, KeepsG T s t → Q (.bool (z.cps.toList.all pr)) t)
    (hdw : (xw == ("__debug__" : Str)) = false := by decide)
    (hco : scope.isCoroutine = false := by rfl) (hclos : closureFor scope env = pure cl := by rfl) (hcell : ∀ y ∈ scope.names, y.2 ≠ .cell := by decide) (h0 : scope.names.lookup (".0" : Str) = some NameKind.local := by rfl)
    (hx : scope.names.lookup x = some .local := by rfl) (hkind : scope.kind = .function := by rfl) (hs : ∀ y, genFold (.Name xw pw) env y = pure y := by intro _; rfl)
    (he : starEach [Expr.GeneratorExp elt [⟨.Name x px, .Name xw pw, [], 0⟩] scope gpos] env = [(false, eval (.GeneratorExp elt [⟨.Name x px, .Name xw pw, [], 0⟩] scope gpos) env)] := by rfl) :
    wpAny (model P w) A (eval (.Call (.Name "all" p) [.GeneratorExp elt [⟨.Name x px, .Name xw pw, [], 0⟩] scope gpos] [] pos) env) Q E s := by
  refine wpAny_Call_Name_kw (low_blt M bk hk hga eg eb hma (u := .builtin "all") (by decide +kernel) ?_)
  refine PyProof.Rows.callWith_builtin1 ?_ he rfl
  rw [he]
  show wpAny _ _ (spliced ((false, eval _ env) :: backTo pos [])) _ _ s
  refine Calls.spliced_cons (wpAny_GeneratorExp_walksQD hh hco hclos hcell h0 hx hkind room (wpAny_Name (wpAny_loadName_local (m := m) hk hxw ns hmx ?_) hdw) hs)
  refine wpAny_pyIter_strU ?_
  have lim : s.heap.NoLimit := M.nolimit.keeps bk
  obtain ⟨mS, nS, _⟩ := id M.nolimit
  have csT : cStatics ≠ T := fun e => by
    obtain ⟨o, _, _, eo, _⟩ := id nS
    rw [e, hT] at eo; cases eo
  generalize hb0 : s.heap.push { cls := .type (strIterType z), data := .fields #[.str z tz, .int 0 0] } = hb
  have kb : ∀ b o, s.heap.get? b = some o → hb.get? b = some o := fun b o e => by rw [← hb0]; exact Heap.get?_push_of_some _ e
  have hszb : hb.objs.size = s.heap.objs.size + 1 := by rw [← hb0, Heap.size_push]
  have hit2 : hb.IsStrIter s.heap.objs.size (strIterType z) z tz 0 := by rw [← hb0]; exact ⟨_, Heap.get?_push_size _ rfl, rfl, rfl⟩
  refine ⟨lim.keeps kb, ?_⟩
  have tabb : TabP T hb := tabP_keeps (fun o e => kb T o e) tab
  obtain ⟨ps, hps, htr⟩ := id tabb
  have kin : K.In hb := (M.kin.keeps bk).keeps kb
  obtain ⟨isC, tabA⟩ := ck.at kin hps htr
  refine wpAny_mono (genexprCode_any (prog := P) (w := w) (A := A) (E := E) (s := { s with heap := hb }) hcode isC tabA) (fun code s3 h3 => ?_) fun _ _ e => e
  obtain ⟨h3, tk3, rfl, hx3, hsz3, ht3⟩ := h3
  have hTlt : T < s.heap.objs.size := let ⟨_, e, _⟩ := tab; Heap.lt_size e
  have hit3 : h3.IsStrIter s.heap.objs.size (strIterType z) z tz 0 := let ⟨o, e, r⟩ := hit2; ⟨o, hx3 _ _ (Nat.ne_of_gt hTlt) e, r⟩
  have hIlt : s.heap.objs.size < h3.objs.size := by
    have : hb.objs.size ≤ h3.objs.size := hsz3
    omega
  have k3 : ∀ b o, b ≠ T → s.heap.get? b = some o → h3.get? b = some o := fun b o n e => hx3 b o n (kb b o e)
  have bk3 : Stands base h3 := fun b o e => k3 b o (fun q => by rw [q, hT] at e; cases e) (bk b o e)
  obtain ⟨bmA, ob, b1, b2, b3, b4, b5, b6⟩ := bm.ex
  refine wpAny_builtinsFor (m := mg) (by rw [eg]; exact M.glob.keeps bk3) b1 b2 (bk3 _ _ b3) b4 b5 b6 ?_
  have W : ∀ A' : Around, A'.handled = none → Walks P w A' s.heap.objs.size [s.heap.objs.size] [s.heap.objs.size] z.cps.size (SignAt z) (fun i h => h.IsStrIter s.heap.objs.size (strIterType z) z tz i) := fun A' hA => by
    rcases strIterType_of z with e | e
    · rw [e]; exact Walks.strAscii hA _ z tz
    · rw [e]; exact Walks.strWide hA _ z tz
  have hclt : cStatics < s.heap.objs.size := let ⟨_, hn, _⟩ := lim; hn.lt
  have lim3 : h3.NoLimit := M.nolimit.keeps bk3
  refine ⟨s.heap.objs.size, [s.heap.objs.size], [s.heap.objs.size], z.cps.size, SignAt z, _, fun _ => true, fun i y => ∃ c, z.cps[i]? = some c ∧ y = .bool (pr c), rfl, W, hit3, fun b hb => ?_, lim3, fun hmem => ?_, fun href hh => ⟨?_, ?_⟩, fun a h₅ tk gs hgb hag hsz₅ hk₅ WS hat => ?_⟩
  · rw [List.mem_singleton.mp hb]; exact hIlt
  · exact absurd (List.mem_singleton.mp hmem) (Nat.ne_of_lt hclt)
  · intro A' E' i v s₂ m₂ hA _ _ _ _ _ _
    exact wpAny_pure ⟨rfl, s₂.heap, s₂.toks, rfl, fun _ _ e => e⟩
  · intro A' E' i v s₂ m₂ hA hD hU hv _ hn hmx _
    obtain ⟨c', u, hc', rfl⟩ := hv
    exact wpAny_mono (hel A' E' _ code c' u s₂ m₂ hA hD hU hn hmx) (fun y s₃ r => ⟨⟨c', hc', r.1⟩, r.2⟩) fun _ _ e => e
  · refine Calls.spliced_nil ?_
    have WS1 := WS.in4_1
    refine call_all_walkS (WS1.self 0 _ _ _ hat ⟨a, _, _, _, _, _, _, fun j => match z.cps[j]? with | some c => pr c | none => true, rfl, WS1, hat, ?_, fun s' hm' => ?_⟩)
    · intro j v s Q E hv hQ
      obtain ⟨i, hi', c', hc', rfl⟩ := hv
      rw [passing_all] at hi'
      have : i = j := by
        obtain ⟨hl, e⟩ := List.getElem?_eq_some_iff.mp hi'
        rw [List.getElem_range] at e; exact e.symm
      subst this
      simp only [hc'] at hQ
      exact wpAny_truthy_bool hQ
    · obtain ⟨hh', g', d', tt, os'⟩ := s'
      have ho : os' = s.os := hm'.os
      have hd : d' = s.drawn := hm'.drawn
      subst ho
      subst hd
      have e : Value.bool (List.all (List.range (passing (fun _ => true) z.cps.size 0).length) fun j => match z.cps[j]? with | some c => pr c | none => true) = Value.bool (z.cps.toList.all pr) := by
        congr 1
        rw [passing_all, List.length_range, ← Array.length_toList]
        refine all_at z.cps.toList pr _ fun j c' hj => ?_
        rw [Array.getElem?_toList] at hj
        simp only [hj]
      rw [e]
      have kk : ∀ b o, b ≠ s.heap.objs.size → h3.get? b = some o → hh'.get? b = some o := fun b o hb e => hm'.heap b o (fun hmem => by
        rcases List.mem_cons.mp hmem with e1 | e1
        · exact absurd (Heap.lt_size e) (by rw [e1]; exact Nat.lt_irrefl _)
        · exact hb (List.mem_singleton.mp e1)) (hk₅ b o e)
      refine h _ ⟨hh', tt, g', rfl, gro_only hgb hm'.gens, fun b o n e => kk b o (Nat.ne_of_lt (Heap.lt_size e)) (k3 b o n e), fun _ => tabP_keeps (fun o e => kk T o (Nat.ne_of_lt hTlt) e) ht3⟩
end
end L2
set_option Elab.async false
set_option linter.all false
set_option maxRecDepth 100000
set_option maxHeartbeats 1600000
namespace L2
open PySem PySem.Spec PyProof.Rows
/-- figures of a number, told of a text -/
def figB (c : Nat) : Bool := !decide ([c] < (Str.ofString "0").cps.toList) && !decide ((Str.ofString "9").cps.toList < [c])
def headB (z : Str) : Bool := match z.cps.toList with | c :: _ => !(sg c == ("0" : Str)) | [] => false
def numB (z : Str) : Bool := decide ((1 : Int) ≤ z.length) && decide ((z.length : Int) ≤ 30) && (z.cps.toList.all figB && ((z == ("0" : Str)) || headB z))
section
variable {P : Program} {w : World} {A : Around} {E : Value → Shared → Prop} {s : Shared} {K : PySem.W.Frag} {mg : Str → Option Value} {base : Heap}
theorem low_len {env : Env} {m : Str → Option Value} {xw : Str} {z : Str} {tz : Tok} {p pw pos : Pos} {Q : Value → Shared → Prop} (M : Mod K mg base) (bk : Stands base s.heap) (hk : env.scope.kind = .function) (eg : env.globals = mainGlobals) (eb : env.builtins = builtinsNs)
    (hgl : env.kindOf "len" = some .globalImplicit) (hml : mg "len" = none) (ns : s.heap.Ns env.locals m) (hxw : env.scope.names.lookup xw = some .local) (hmx : m xw = some (.str z tz)) (hz : z.length ≤ sizeLine)
    (h : ∀ t tk, Q (.int z.length t) { s with toks := tk }) (hdw : (xw == ("__debug__" : Str)) = false := by decide)
    (he : starEach [Expr.Name xw pw] env = [(false, eval (.Name xw pw) env)] := by rfl) : wpAny (model P w) A (eval (.Call (.Name "len" p) [.Name xw pw] [] pos) env) Q E s := by
  refine wpAny_Call_Name_kw (low_blt M bk hk hgl eg eb hml (u := .builtin "len") (by decide +kernel) ?_)
  refine PyProof.Rows.callWith_builtin1 ?_ he rfl
  rw [he]
  show wpAny _ _ (spliced ((false, eval _ env) :: backTo pos [])) _ _ s
  refine Calls.spliced_cons (wpAny_Name (wpAny_loadName_local (m := m) hk hxw ns hmx ?_) hdw)
  refine Calls.spliced_nil ?_
  have hn := line63
  exact PyProof.Rows.len_str (by omega) (h _ _)
theorem low_num {env : Env} {c T : Addr} {m : Str → Option Value} {z : Str} {tz tm : Tok} {gsc : Scope} {k0 k1 k2 k3 k4 k5 k6 : Nat} {p1 p2 p3 p4 p5 p6 p7 p8 p9 p10 p11 p12 p13 p14 p15 p16 p17 p18 p19 p20 p21 p22 p23 p24 p25 p26 p27 p28 p29 p30 : Pos}
    (hh : A.handled = none) (room : A.depth < recursionLimit) (M : Mod K mg base) (bm : BModB base mg) (bk : Stands base s.heap) (hT : base.get? T = none) (hk : env.scope.kind = .function) (eg : env.globals = mainGlobals) (eb : env.builtins = builtinsNs)
    (hga : env.kindOf "all" = some .globalImplicit) (hma : mg "all" = none) (hgl : env.kindOf "len" = some .globalImplicit) (hml : mg "len" = none) (hgm : env.kindOf "MOST_FIGURES" = some .globalImplicit) (hmm : mg "MOST_FIGURES" = some (.int 30 tm))
    (hcode : env.code = .ref c) (ck : CodeK K c T) (tab : TabP T s.heap) (nT : env.locals ≠ T)
    (ns : s.heap.Ns env.locals m) (hxw : env.scope.names.lookup ("word" : Str) = some NameKind.local) (hmx : m "word" = some (.str z tz)) (hz : z.length ≤ sizeLine)
    (hco : gsc.isCoroutine = false) (hclos : closureFor gsc env = pure []) (hcell : ∀ y ∈ gsc.names, y.2 ≠ .cell) (h0 : gsc.names.lookup (".0" : Str) = some NameKind.local)
    (hx : gsc.names.lookup ("figure" : Str) = some NameKind.local) (hkind : gsc.kind = .function) :
    wpAny (model P w) A (execs [.If (.UnaryOp .Not (.Compare (.Constant (.int 1) k0 p1) [.LtE, .LtE] [.Call (.Name "len" p2) [.Name "word" p3] [] p4, .Name "MOST_FIGURES" p5] p6) p7) [.Return (some (.Constant (.bool false) k1 p8)) p9] [] p10,
      .Return (some (.BoolOp .And [.Call (.Name "all" p11) [.GeneratorExp (.Compare (.Constant (.str "0") k2 p12) [.LtE, .LtE] [.Name "figure" p13, .Constant (.str "9") k3 p14] p15) [⟨.Name "figure" p16, .Name "word" p17, [], 0⟩] gsc p18] [] p19,
        .BoolOp .Or [.Compare (.Name "word" p20) [.Eq] [.Constant (.str "0") k4 p21] p22, .Compare (.Subscript (.Name "word" p23) (.Constant (.int 0) k5 p24) p25) [.NotEq] [.Constant (.str "0") k6 p26] p27] p28] p29)) p30] env)
      (fun fl t => fl = .ret (.bool (numB z)) ∧ KeepsG T s t) E s := by
  refine wpAny_execs_cons (wpAny_If (isTrue_not (isTrue_chain (wpAny_Constant_int ?_) (by with_unfolding_all rfl))))
  have kt : ∀ (u : Shared) (tk : Nat), KeepsG T s u → KeepsG T s { u with toks := tk } := fun u tk k => k.trans (keepsG_tok T u tk)
  refine test_link (low_len (m := m) (z := z) (tz := tz) M bk hk eg eb hgl hml ns hxw hmx hz fun t tk => ?_)
  refine le_int (wpAny_truthy_bool ?_)
  have fin : ∀ u, KeepsG T s u → numB z = false → ((Flow.ret (Value.bool false)) = Flow.ret (Value.bool (numB z)) ∧ KeepsG T s u) := fun u k e => ⟨by rw [e], k⟩
  by_cases h1 : (1 : Int) ≤ z.length
  · rw [decide_eq_true h1]
    refine ite_tt ?_
    refine test_last (low_glob M bk hk hgm eg hmm ?_)
    refine le_int (wpAny_truthy_bool ?_)
    by_cases h2 : (z.length : Int) ≤ 30
    · rw [decide_eq_true h2]
      refine ite_ff (wpAny_execs_nil ?_)
      refine wpAny_execs_cons (wpAny_Return_some ?_)
      refine BoolOp_and (low_all (m := m) (z := z) (tz := tz) (pr := figB) (c := c) (T := T) (cl := []) hh room M bm bk hT hk eg eb hga hma hcode ck tab ns hxw hmx (el_between hx hkind) (fun u k => ?_) (hco := hco) (hclos := hclos) (hcell := hcell) (h0 := h0) (hx := hx) (hkind := hkind))
      refine wpAny_truthy_bool ?_
      have k : KeepsG T s u := (keepsG_tok T s tk).trans k
      have hnb : numB z = (z.cps.toList.all figB && ((z == ("0" : Str)) || headB z)) := by
        unfold numB; rw [decide_eq_true h1, decide_eq_true h2]; rfl
      by_cases ha : z.cps.toList.all figB = true
      · rw [ha]
        refine ite_tt (BoolOp_one ?_)
        have ns1 := k.ns nT ns
        refine BoolOp_or (wpAny_Compare1 (wpAny_Name (wpAny_loadName_local (m := m) hk hxw ns1 hmx ?_)))
        refine Calls.Constant_str (PyProof.Rows.eq_str (wpAny_truthy_bool ?_))
        by_cases hq : (z == ("0" : Str)) = true
        · rw [hq]
          refine ite_tt ⟨?_, kt _ _ k⟩
          rw [hnb, ha, hq]; rfl
        · have hq' : (z == ("0" : Str)) = false := by simpa using hq
          rw [hq']
          refine ite_ff (BoolOp_one (wpAny_Compare1 (Subscript_ (wpAny_Name (wpAny_loadName_local (m := m) hk hxw ((kt _ _ k).ns nT ns) hmx ?_)))))
          refine wpAny_Constant_int ?_
          obtain ⟨x, r, ex⟩ : ∃ x r, z.cps.toList = x :: r := by
            cases e : z.cps.toList with
            | nil =>
              have : z.length = z.cps.toList.length := by simp [Str.length]
              rw [e] at this
              simp at this; omega
            | cons x r => exact ⟨x, r, rfl⟩
          have hx0 : z.cps[(0 : Nat)]? = some x := by rw [← Array.getElem?_toList, ex]; rfl
          have e0 : seqIndex? 0 z.length = some 0 := PySem.StrLaws.seqIndex_nonneg (by omega) (by omega)
          refine tail_any (typeIs_str _ z tz) slot_str_getitem.lookup (getItem_str (c := x) (by rfl) (by rw [e0]; exact hx0) ?_) (by intros; rfl)
          refine Calls.Constant_str (PyProof.Rows.ne_str ⟨?_, kt _ _ (kt _ _ (kt _ _ (kt _ _ k)))⟩)
          rw [hnb, ha, hq']
          show Flow.ret (Value.bool (sg x != ("0" : Str))) = _
          unfold headB
          rw [ex]
          rfl
      · have ha' : z.cps.toList.all figB = false := by simpa using ha
        rw [ha']
        refine ite_ff ⟨?_, k⟩
        rw [hnb, ha']; rfl
    · rw [decide_eq_false h2]
      refine ite_tt (wpAny_execs_cons (wpAny_Return_some (wpAny_Constant_bool ?_)))
      exact fin _ (keepsG_tok T s _) (by unfold numB; rw [decide_eq_false h2, Bool.and_false, Bool.false_and])
  · rw [decide_eq_false h1]
    refine ite_ff ?_
    refine ite_tt (wpAny_execs_cons (wpAny_Return_some (wpAny_Constant_bool ?_)))
    exact fin _ (keepsG_tok T s _) (by unfold numB; rw [decide_eq_false h1]; rfl)
end
end L2
set_option Elab.async false
set_option linter.all false
set_option maxRecDepth 100000
set_option maxHeartbeats 1600000
namespace L2
open PySem PySem.Spec PyProof.Rows
/-- an iterator of ours has turned, a code table has grown, generators were made -/
theorem Inv.ranT {X : Cx} {pins : List (Addr × Obj)} {σ : St} {H : Hp} {s : Shared} {h' : Heap} {it T : Addr} {g' : Array GenState} {d' : Drawn} {t' : Nat} (I : Inv X pins σ H s) (hT : H T = some (.ext (TabP T))) (k : ∀ b o, b ≠ it → b ≠ T → s.heap.get? b = some o → h'.get? b = some o)
    (ht : TabP T h') (f : FpOk X pins H it) (hg : AllBare g') : Inv X pins σ H { s with heap := h', gens := g', drawn := d', toks := t' } := by
  obtain ⟨f0, f1, f2, f3, f4, f5⟩ := f
  have nit : ∀ b u, H b = some u → b ≠ it := fun b u e z => by rw [z, f0] at e; cases e
  have nT : ∀ b, H b = none → b ≠ T := fun b e z => by rw [z, hT] at e; cases e
  refine I.step (ch := [it]) (fun b hb => ?_) (fun b o _ _ hc e hn => k b o (fun z => hc (by simp [z])) (nT b hn) e) (fun b o _ _ hc e hn => ⟨o.slots, k b o (fun z => hc (by simp [z])) (nT b hn) e⟩) (fun _ _ _ _ n => n)
    (fun b o hc e => ?_) (fun _ _ e => e) (fun _ _ _ e => e) (fun b ps e => ⟨#[], by rw [e]; simp⟩) (fun m hm => ?_) (fun b u e => ?_) hg
  · have e : b = it := by simpa using hb
    subst e
    exact ⟨f3, f1, f4, f5⟩
  · by_cases z : b = T
    · subst z
      obtain ⟨ps, e, _⟩ := ht
      exact ⟨_, e⟩
    · exact ⟨o, k b o (fun z => hc (by simp [z])) z e⟩
  · obtain ⟨o, es, ep, ho, r⟩ := hm
    exact ⟨o, es, ep, k _ o (Ne.symm f1) (nT _ I.free) ho, r⟩
  · by_cases z : b = T
    · subst z
      rw [hT] at e
      cases e
      exact ht.ok
    · refine (I.hok b u e).stay (fun c v hc q => k c v ?_ ?_ q) (fun _ q => q) fun _ _ q => q
      · rcases hc with rfl | hc
        · exact nit _ _ e
        · exact nit _ _ hc
      · rcases hc with rfl | hc
        · exact z
        · intro y
          rw [y, hT] at hc; cases hc
/-- a def's body, run at any place with a text -/
def NumBody (P : Program) (w : World) (base : Heap) (T c : Addr) (x : Str) (st : Stmt) (pf : Str → Bool) : Prop :=
  ∀ (A : Around) (E : Value → Shared → Prop) (s : Shared) (env : Env) (m : Str → Option Value) (z : Str) (tz : Tok), A.handled = none → A.depth < recursionLimit → Stands base s.heap → env.scope = defScope st → env.globals = mainGlobals → env.builtins = builtinsNs → env.code = .ref c → env.cells = cellsFrom (env.locals + 1) (defScope st).names [] →
    env.locals ≠ T → TabP T s.heap → s.heap.Ns env.locals m → m x = some (.str z tz) → z.length ≤ sizeLine → wpAny (model P w) A (execs (defBody st) env) (fun fl t => fl = .ret (.bool (pf z)) ∧ KeepsG T s t) E s
section
variable {P : Program} {w : World} {A : Around} {s : Shared} {K : PySem.W.Frag} {mg : Str → Option Value} {base : Heap}
theorem call_num {nm x : Str} {N : List Str} {st : Stmt} {f c T : Addr} {fd : FuncData} {pf : Str → Bool} {z : Str} {tz : Tok} (M : Mod K mg base) (F : Fun K nm nm st f fd) (hc : fd.code = .ref c) (S : FnScope N [x] (defScope st)) (hpar : (defScope st).names.lookup x = some .local) (nb : NumBody P w base T c x st pf) (hb : Binds K fd [x] [])
    (hh : A.handled = none) (room : A.depth + 1 < recursionLimit) (bk : Stands base s.heap) (tab : TabP T s.heap) (hz : z.length ≤ sizeLine) :
    codeAny (model P w) A (.call (.ref f) ⟨[.str z tz], []⟩) (fun r t => r = .ok (.ret (.bool (pf z))) ∧ KeepsG T s t) s := by
  have KX : K.In s.heap := M.kin.keeps bk
  have hb1 := hb s [.str z tz] KX rfl
  obtain ⟨oc, od, kV, doc, pm, an, cdv, ct, osl, rfl, lk, hcd⟩ := F.ex
  have e : cdv = .ref c := hc
  subst e
  have lim : s.heap.NoLimit := M.nolimit.keeps bk
  have hTlt : T < s.heap.objs.size := let ⟨_, e, _⟩ := tab; Heap.lt_size e
  refine codeAny_call_function (by omega) (KX _ _ lk) rfl S.co S.gen rfl (PySem.W.codeRec_of KX hcd) (hb1 _ _ _ _ ?_)
  refine wpAny_newFunctionEnv_cells S.kind (fun y hy => ?_) fun env he s1 x1 => ?_
  · have : y = (x, .str z tz) := by simpa using hy
    subst this
    exact .inl hpar
  · subst he
    have x0 := x1.toInCall
    refine ⟨lim.keeps x0.keep, codeAny_func ?_⟩
    obtain ⟨h1, tk, rfl, hk⟩ := x1.done
    have k1 : KeepsG T s { s with heap := h1, toks := tk } := ⟨h1, tk, s.gens, rfl, Gro.refl _, fun b o _ e => hk b o e, tabP_keeps (hk T)⟩
    refine wpAny_mono (nb _ _ _ _ _ z tz hh (by show A.depth + 1 < _; omega) (fun b o e => hk b o (bk b o e)) rfl rfl rfl rfl rfl (Nat.ne_of_gt hTlt) (k1.tab tab) x0.ns ?_ hz) (fun fl t r => ?_) fun _ _ e => e
    · exact bindL_get (P := [x]) (vs := [Value.str z tz]) (i := 0) (by simp) rfl rfl hpar
    · obtain ⟨rfl, k⟩ := r
      exact ⟨rfl, k1.trans k⟩
end
def tAllF (P T : Addr) (pf : Str → Bool) (ti : TIG) : TE := fun σ H Q => ti σ H fun n vi H1 => H1 P = some (.ext (TabP P)) ∧ H1 T = some (.ext (TabP T)) ∧ (∀ i v, i < n → vi i = some v → ∃ z, v = .str z ∧ z.length ≤ sizeLine) ∧ Q (.bl ((List.range n).all fun i => match vi i with | some (.str z) => pf z | _ => false)) H1
section
variable {X : Cx} {iter : Expr} {ti : TIG} {x nm y : Str} {px pn pw p gpos pos cpos : Pos} {scope : Scope} {cl : List (Str × Addr)} {c P T f cf : Addr} {k : Nat} {N : List Str} {st : Stmt} {fd : FuncData} {pf : Str → Bool}
theorem pe_allF (hg : Gl X "all") (hm : X.mg "all" = none) (hr : Room k X.A) (hcode : X.env.code = .ref c) (ck : CodeK X.K c P) (bm : BModB X.base X.mg) (hi : PIG X iter ti)
    (F : Fun X.K nm nm st f fd) (hcf : fd.code = .ref cf) (S : FnScope N [y] (defScope st)) (hpar : (defScope st).names.lookup y = some .local) (nb : Mod X.K X.mg X.base → X.base.get? T = none → NumBody X.prog X.w X.base T cf y st pf) (hb : Binds X.K fd [y] []) (hnm : X.mg nm = some (.ref f))
    (hgn : scope.names.lookup nm = some .globalImplicit := by rfl) (hdn : (nm == ("__debug__" : Str)) = false := by decide) (hdx : (x == ("__debug__" : Str)) = false := by decide)
    (hco : scope.isCoroutine = false := by rfl) (hclos : closureFor scope X.env = pure cl := by rfl) (hcell : ∀ y ∈ scope.names, y.2 ≠ .cell := by decide) (h0 : scope.names.lookup (".0" : Str) = some NameKind.local := by rfl)
    (hx : scope.names.lookup x = some .local := by rfl) (hkind : scope.kind = .function := by rfl) (hs : ∀ y, genFold iter X.env y = pure y := by intro _; rfl)
    (he2 : ∀ env, starEach [Expr.Name x pw] env = [(false, eval (.Name x pw) env)] := by intro _; rfl)
    (he : starEach [gx (.Call (.Name nm pn) [.Name x pw] [] cpos) x px iter scope gpos] X.env = [(false, eval (gx (.Call (.Name nm pn) [.Name x pw] [] cpos) x px iter scope gpos) X.env)] := by rfl) :
    PE X (.Call (.Name "all" p) [.GeneratorExp (.Call (.Name nm pn) [.Name x pw] [] cpos) [⟨.Name x px, iter, [], 0⟩] scope gpos] [] pos) (tAllF P T pf ti) := by
  intro pins s σ H Q I h
  refine wpAny_Call_Name_kw (ld_blt I hg hm (u := .builtin "all") (by decide +kernel) ?_)
  refine PyProof.Rows.callWith_builtin1 ?_ he rfl
  rw [he]
  show wpAny _ _ (spliced ((false, eval _ X.env) :: backTo pos [])) _ _ s
  refine Calls.spliced_cons (genexpG (T := T) hr.hd hco hclos hcell h0 hx hkind hr.depth (wpAny_mono (hi pins s σ H _ I h) (fun xv s1 h1 => wpAny_mono h1 (fun it s2 h2 => ?_) fun _ _ e => e) fun _ _ e => e) hs)
  obtain ⟨J, fp, n, Pv, St₀, vi, H1, rfl, I2, fj, hfp, hext, W, hst, hv, hP, hT, hstr, q⟩ := h2
  refine ⟨I2.nolimit, ?_⟩
  obtain ⟨⟨ps, hps, htr⟩, _⟩ := I2.hok P _ hP
  obtain ⟨isC, tabA⟩ := ck.at I2.kIn hps htr
  refine wpAny_mono (genexprCode_any (prog := X.prog) (w := X.w) (A := X.A) (E := X.xe) hcode isC tabA) (fun code s3 h3 => ?_) fun _ _ e => e
  obtain ⟨h3, tk3, rfl, hx3, hsz3, ht3⟩ := h3
  have I3 : Inv X pins σ H1 { s2 with heap := h3, toks := tk3 } := I2.grow (t' := tk3) hP hx3 ht3
  have hnP : ∀ b ∈ fp, b ≠ P := fun b hb z => hext b hb P (by rw [z]; exact hP)
  have hst3 : St₀ 0 h3 := (W X.A hr.hd).frame _ _ _ hst fun b hb o e => hx3 b o (hnP b hb) e
  obtain ⟨bmA, ob, b1, b2, b3, b4, b5, b6⟩ := bm.ex
  refine wpAny_builtinsFor (m := X.mg) (by rw [I.ok.glob]; exact I3.mod.glob.keeps I3.bk) b1 b2 (I3.bk _ _ b3) b4 b5 b6 ?_
  have nJ : ∀ b o, X.base.get? b = some o → b ≠ J := fun b o e z => by
    obtain ⟨f0, f1, f2, f3, f4, f5⟩ := fj
    subst z
    rcases f3 with f3 | f3
    · exact I2.ok.noex _ o e f3
    · have := Heap.lt_size (I2.ok.bs _ o e).1
      exact absurd this (Nat.not_lt.mpr f3)
  have nT : ∀ b o, X.base.get? b = some o → b ≠ T := fun b o e z => by
    have h1 := (I2.bs b o e).2
    rw [z, hT] at h1; cases h1
  obtain ⟨oS, hoS⟩ : ∃ o, X.base.get? cStatics = some o := let ⟨_, ⟨o, _, _, e, _⟩, _⟩ := I2.ok.mod.nolimit; ⟨o, e⟩
  have bT : X.base.get? T = none := by
    cases e : X.base.get? T with
    | none => rfl
    | some o => exact absurd rfl (nT T o e)
  have W' := fun A' hA => (W A' hA).bound
  have tab3 : TabP T h3 := (I3.hok T _ hT).1
  refine ⟨J, fp, [J], n, _, St₀, fun i u => i < n ∧ u = .bool (match vi i with | some (.str z) => pf z | _ => false), rfl, W', hst3, fun b hb => Nat.lt_of_lt_of_le (hfp b hb) hsz3, I3.nolimit, fun hmem => nJ _ _ hoS (List.mem_singleton.mp hmem), tab3, fun hmem => hext T hmem T hT, nT _ _ hoS, fun href hh => ?_, fun a h₅ tk gs hgb hag hsz₅ hk₅ WS hat => ?_⟩
  · intro A' E' i v s₂ m₂ hA hD hU hpv hn hmx hkp tab2
    obtain ⟨hin, hpv⟩ := hpv
    obtain ⟨u, hy, ry⟩ := hv i v hpv
    obtain ⟨z, rfl, hz⟩ := hstr i u hin hy
    obtain ⟨tz, rfl⟩ := ry
    have bk2 : Stands X.base s₂.heap := fun b o e => by
      have e3 : h3.get? b = some o := I3.bk b o e
      exact hkp b (List.mem_range.mpr (Heap.lt_size e3)) (by simpa using nJ b o e) (nT b o e) o (hh b o e3)
    have egl : X.env.globals = mainGlobals := I.ok.glob
    have room : A'.depth + 1 < recursionLimit := by have := hr.dp; omega
    refine wpAny_Call_Name_kw (low_glob I.mod bk2 hkind (show scope.names.lookup nm = _ from hgn) egl hnm ?_ hdn)
    refine PySem.W.callWith_K (h₀ := X.base) I.ok.mod.kin F.kp ?_ (he2 _) rfl
    rw [he2 _]
    show wpAny _ _ (spliced ((false, eval _ _) :: backTo cpos [])) _ _ s₂
    refine Calls.spliced_cons (wpAny_Name (wpAny_loadName_local (m := m₂) hkind hx hn hmx ?_) hdx)
    refine Calls.spliced_nil ⟨I.mod.kin.keeps bk2, ?_⟩
    refine wpAny_call (codeAny_mono (call_num I.mod F hcf S hpar (nb I.mod bT) hb hA room bk2 tab2 hz) fun r t hq => ?_)
    obtain ⟨rfl, kg⟩ := hq
    refine ⟨⟨hin, ?_⟩, kg⟩
    rw [hy]
  · refine Calls.spliced_nil ?_
    have WS1 := WS.up.up.up
    refine callT_all (WS1.same 0 _ _ _ hat ⟨a, _, _, _, _, fun i => match vi i with | some (.str z) => pf z | _ => false, rfl, WS1, hat, ?_, fun s' hm2 => ?_⟩)
    · intro j v s Q E hv hQ
      obtain ⟨hin, rfl⟩ := hv
      exact wpAny_truthy_bool hQ
    · obtain ⟨hh, g', d', tt, os'⟩ := s'
      have hm' := hm2.mv
      have ho : os' = s2.os := hm'.os
      subst ho
      have hb : AllBare g' := OnlyG.bare hm'.gens (AllBare.push I3.bare hgb)
      have kk : ∀ b o, b ≠ J → b ≠ T → h3.get? b = some o → hh.get? b = some o := fun b o hb ht e => hm'.heap b o (fun hmem => by
        rcases List.mem_cons.mp hmem with e1 | e1
        · exact absurd (Heap.lt_size e) (by rw [e1]; exact Nat.lt_irrefl _)
        · rcases List.mem_cons.mp e1 with e1 | e1
          · exact ht e1
          · exact hb (List.mem_singleton.mp e1)) (hk₅ b o e)
      have tabE : TabP T hh := hm2.tb
      have I6 : Inv X pins σ H1 { s2 with heap := hh, gens := g', drawn := d', toks := tt } := I3.ranT (h' := hh) (it := J) hT kk tabE fj hb
      exact ⟨.bl _, H1, I6, rfl, q⟩
end
end L2
set_option Elab.async false
set_option linter.all false
set_option maxRecDepth 100000
namespace L2
open PySem PySem.Spec PyProof.Rows
def optI : Option Nat → Int
  | none => -1
  | some j => j
section
variable {X : Cx}
def rFind3 : V → List V → Hp → VK → Prop := fun x xs H Q => ∃ (z : Str) (c : Nat) (i : Int), x = .str z ∧ xs = [.str (sg c), .int i] ∧ 0 ≤ i ∧ Q (.int (optI (nxt z.cps.toList i.toNat (sg c)))) H
def prv (cs : List Nat) : Nat → Str → Option Nat
  | 0, _ => none
  | e + 1, x => if cs[e]?.map sg = some x then some e else prv cs e x
def rRfind4 : V → List V → Hp → VK → Prop := fun x xs H Q => ∃ (z : Str) (c : Nat) (j : Int), x = .str z ∧ xs = [.str (sg c), .int 0, .int j] ∧ 0 ≤ j ∧ j ≤ z.length ∧ Q (.int (optI (prv z.cps.toList j.toNat (sg c)))) H
end
end L2
set_option Elab.async false
set_option linter.all false
set_option maxRecDepth 100000
namespace L2
open PySem PySem.Spec PyProof.Rows
def tRevL (K : PySem.W.Frag) (te : TE) : TE := fun σ H Q => te σ H fun x H1 => ∃ a xs, x = .ref a ∧ SqL K H1 a xs ∧ ∀ p, H1 p = none → Q (.ref p) (upd H1 p (.lst xs.reverse))
section
variable {X : Cx} {e : Expr} {te : TE}
def rRepr (K : PySem.W.Frag) : List V → Hp → VK → Prop := fun xs H Q => ∃ x d, xs = [x] ∧ Dp K H x d ∧ d.showable = true ∧ d.hasDict = false ∧ d.depth ≤ 64 ∧ d.shown.length ≤ sizeLine ∧ Q (.str d.shown) H
theorem cr_repr (hg : X.A.guards = some []) (hu : X.A.units + 66 < cLine) : CallR X (.builtin "repr") (rRepr X.K) := by
  intro pins s σ H xs us Q I rs h
  obtain ⟨x, d, rfl, hd, hs, hn, hdp, hz, q⟩ := h
  cases rs with
  | cons r rs =>
    cases rs
    obtain ⟨as, rd⟩ := Dp.reads I d x _ hd r
    cases hd with
    | non =>
      cases r
      exact P.repr_of_none ⟨.str _, H, I.tok _, ⟨_, rfl⟩, q⟩
    | bl b =>
      cases r
      exact P.repr_of_bool ⟨.str _, H, I.tok _, ⟨_, rfl⟩, q⟩
    | int i =>
      obtain ⟨t, rfl⟩ := r
      exact P.repr_of_int (of_decide_eq_true hs) ⟨.str _, H, I.tok _, ⟨_, rfl⟩, q⟩
    | str z =>
      obtain ⟨t, rfl⟩ := r
      exact P.repr_of_str ⟨.str _, H, I.tok _, ⟨_, rfl⟩, q⟩ hz
    | lst h1 h2 =>
      cases r
      exact repr_of_reads' rd hs (by rw [hn]; exact nofun) hg (by omega) (fun _ _ e => e) (fun h' u tk hk => ⟨.str _, H, I.kept (t' := tk) hk, ⟨_, rfl⟩, q⟩) hz
    | tup h1 h2 =>
      cases r
      exact repr_of_reads' rd hs (by rw [hn]; exact nofun) hg (by omega) (fun _ _ e => e) (fun h' u tk hk => ⟨.str _, H, I.kept (t' := tk) hk, ⟨_, rfl⟩, q⟩) hz
end
/-- a list of small numbers is shown -/
theorem nodict_ints : ∀ ns : List Int, PyData.hasDictAll (ns.map PyData.int) = false
  | [] => rfl
  | n :: ns => nodict_ints ns
end L2
set_option Elab.async false
set_option linter.all false
set_option maxRecDepth 100000
namespace L2
open PySem PySem.Spec PyProof.Rows
/-- what stands behind the first c -/
def aft (c : Nat) : List Nat → Option (List Nat)
  | [] => none
  | x :: xs => if x = c then some xs else aft c xs
/-- what stands ahead of the last c -/
def bef (c : Nat) : List Nat → Option (List Nat)
  | [] => none
  | x :: xs => match bef c xs with
    | some r => some (x :: r)
    | none => if x = c then some [] else none
theorem aft_len {c : Nat} : ∀ {xs r : List Nat}, aft c xs = some r → r.length < xs.length
  | [], r, h => by cases h
  | x :: xs, r, h => by
    unfold aft at h
    split at h
    · cases h; exact Nat.lt_succ_self _
    · exact Nat.lt_succ_of_lt (aft_len h)
/-- how many of a length -/
def dn : List Nat → Nat → Int
  | _, 0 => 1
  | [], _ + 1 => 0
  | c :: cs, n + 1 => dn cs (n + 1) + dn cs n - (match _h : aft c cs with | none => 0 | some r => dn r n)
termination_by xs n => (xs.length, n)
decreasing_by
  · apply Prod.Lex.left; exact Nat.lt_succ_self _
  · apply Prod.Lex.left; exact Nat.lt_succ_self _
  · apply Prod.Lex.left; exact Nat.lt_succ_of_lt (aft_len _h)
def oI (f : List Nat → Int) (o : Option (List Nat)) : Int := match o with | none => 0 | some r => f r
/-- how many in all -/
def mn : List Nat → Int
  | [] => 1
  | c :: cs => 2 * mn cs - (match _h : aft c cs with | none => 0 | some r => mn r)
termination_by xs => xs.length
decreasing_by
  · exact Nat.lt_succ_self _
  · exact Nat.lt_succ_of_lt (aft_len _h)
def sumTo (f : Nat → Int) : Nat → Int
  | 0 => 0
  | m + 1 => sumTo f m + f m
end L2
set_option Elab.async false
set_option linter.all false
namespace L2
open PySem
/-- in how many ways ys is left of xs -/
def wys : List Nat → List Nat → Nat
  | _, [] => 1
  | [], _ :: _ => 0
  | x :: xs, y :: ys => wys xs (y :: ys) + if x = y then wys xs ys else 0
/-- a list of ints, by a function of the place -/
def tabI (k : Nat) (f : Nat → Int) : List V := (List.range k).map fun i => V.int (f i)
/-- the ways from each place on, of a row's codes -/
def wsuf (xs t : List Nat) : List V := tabI (xs.length + 1) (fun p => (wys (xs.drop p) t : Int))
/-- the ways of each beginning -/
def wpre (xs ys : List Nat) : List V := tabI (ys.length + 1) (fun j => (wys xs (ys.take j) : Int))
end L2
set_option Elab.async false
set_option linter.all false
set_option maxRecDepth 100000
namespace L2
open PySem PySem.Spec PyProof.Rows
/-- xs[i] of a list, by values, 0 ≤ i -/
def gGetL (K : PySem.W.Frag) : V → V → Hp → VK → Prop := fun x y H Q => ∃ p xs i v, x = .ref p ∧ y = .int i ∧ SqL K H p xs ∧ 0 ≤ i ∧ atI xs i = some v ∧ Q v H
end L2
set_option Elab.async false
set_option linter.all false
set_option maxRecDepth 100000
namespace L2
open PySem PySem.Spec PyProof.Rows
def spWith : Sp := fun vs H Q _ => ∃ (z : Str) (c : Nat) (t : List Nat) (p : Addr), vs = [.str z, .str (sg c), .ref p] ∧ z.length ≤ 200 ∧ H p = some (.lst (wsuf z.cps.toList t)) ∧ ∀ (l : Addr) (H' : Hp), Same H H' → H l = none → H' l = some (.lst (wsuf z.cps.toList (c :: t))) → Q (.ref l) H'
def spFrom : Sp := fun vs H Q _ => ∃ z y : Str, vs = [.str z, .str y] ∧ z.length ≤ 200 ∧ y.length ≤ 200 ∧ ∀ (l : Addr) (rs : List Addr) (H' : Hp), Same H H' → H l = none → H' l = some (.lst (rs.map V.ref)) → rs.length = y.cps.toList.length + 1 → (∀ (j : Nat) (r : Addr), rs[j]? = some r → r ≠ l ∧ H' r = some (.lst (wsuf z.cps.toList (y.cps.toList.drop j)))) → Q (.ref l) H'
def spMany : Sp := fun vs H Q _ => ∃ z y : Str, vs = [.str z, .str y] ∧ z.length ≤ 200 ∧ y.length ≤ 200 ∧ ∀ H' : Hp, Same H H' → Q (.int (wys z.cps.toList y.cps.toList : Nat)) H'
def spWaysL : Sp := fun vs H Q _ => ∃ z y : Str, vs = [.str z, .str y] ∧ z.length ≤ 200 ∧ y.length ≤ 200 ∧ ∀ (l : Addr) (rs : List Addr) (H' : Hp), Same H H' → H' l = some (.lst (rs.map V.ref)) → rs.length = z.cps.toList.length + 1 → (∀ (j : Nat) (r : Addr), rs[j]? = some r → H' r = some (.lst (wpre (z.cps.toList.take j) y.cps.toList))) → Q (.ref l) H'
end L2
set_option Elab.async false
set_option linter.all false
set_option maxRecDepth 100000
namespace L2
open PySem PySem.Spec PyProof.Rows
def idx (c : Nat) : List Nat → Option Nat
  | [] => none
  | x :: xs => if x = c then some 0 else (idx c xs).map (· + 1)
/-- the dict of next places from p on -/
def entK : List Nat → Nat → List (Key × V)
  | [], _ => []
  | c :: cs, p => putK (entK cs (p + 1)) (Sum.inr (sg c)) (.int (p : Nat))
def keysU (kvs : List (Key × V)) : Prop := (kvs.map (·.1)).Nodup
def gv (g : Nat → Int) : V → Int
  | .int i => g i.toNat
  | _ => 0
def sumV (g : Nat → Int) (kvs : List (Key × V)) : Int := (kvs.map fun kv => gv g kv.2).sum
structure TabX (H : Hp) (cs : List Nat) (refs : List Addr) : Prop where
  len : refs.length = cs.length + 1
  at_ : ∀ (i : Nat) (r : Addr), refs[i]? = some r → H r = some (.dK (entK (cs.drop i) i))
theorem TabX.same {H H' : Hp} {cs : List Nat} {refs : List Addr} (h : TabX H cs refs) (s : Same H H') : TabX H' cs refs := ⟨h.len, fun i r e => s _ _ (h.at_ i r e)⟩
def spTabX : Sp := fun vs H Q _ => ∃ z : Str, vs = [.str z] ∧ z.length ≤ 200 ∧ ∀ (l : Addr) (refs : List Addr) (H' : Hp), Same H H' → H l = none → H' l = some (.lst (refs.map V.ref)) → TabX H' z.cps.toList refs → Q (.ref l) H'
structure TabXI (H0 H : Hp) (cs : List Nat) (t : Nat) (d l : Addr) (refs : List Addr) : Prop where
  sm : Same H0 H
  nl : H0 l = none
  lst : H l = some (.lst (refs.map V.ref))
  len : refs.length = t + 1
  last : refs[t]? = some d
  at_ : ∀ (j : Nat) (r : Addr), refs[j]? = some r → r ≠ l ∧ H r = some (.dK (entK (cs.drop (cs.length - j)) (cs.length - j)))
def spManyFrom : Sp := fun vs H Q _ => ∃ (l : Addr) (refs : List Addr) (cs : List Nat), vs = [.ref l] ∧ H l = some (.lst (refs.map V.ref)) ∧ TabX H cs refs ∧ cs.length ≤ 200 ∧ ∀ (m : Addr) (H' : Hp), Same H H' → H m = none → H' m = some (.lst (tabI (cs.length + 1) fun i => mn (cs.drop i))) → Q (.ref m) H'
def spManyLeft : Sp := fun vs H Q _ => ∃ z : Str, vs = [.str z] ∧ z.length ≤ 200 ∧ ∀ H' : Hp, Same H H' → Q (.int (mn z.cps.toList)) H'
def dsuf (cs : List Nat) (n : Nat) : List V := tabI (cs.length + 1) fun i => dn (cs.drop i) n
def spOneLonger : Sp := fun vs H Q _ => ∃ (z : Str) (l p : Addr) (refs : List Addr) (n : Nat), vs = [.str z, .ref l, .ref p] ∧ z.length ≤ 200 ∧ H l = some (.lst (refs.map V.ref)) ∧ TabX H z.cps.toList refs ∧ H p = some (.lst (dsuf z.cps.toList n)) ∧
  ∀ (m : Addr) (H' : Hp), Same H H' → H m = none → H' m = some (.lst (dsuf z.cps.toList (n + 1))) → Q (.ref m) H'
def spManyOfL : Sp := fun vs H Q _ => ∃ (z : Str) (l : Addr) (refs : List Addr), vs = [.str z, .ref l] ∧ z.length ≤ 200 ∧ H l = some (.lst (refs.map V.ref)) ∧ TabX H z.cps.toList refs ∧
  ∀ (m : Addr) (rs : List Addr) (H' : Hp), Same H H' → H m = none → H' m = some (.lst (rs.map V.ref)) → rs.length = z.cps.toList.length + 1 → (∀ (n : Nat) (r : Addr), rs[n]? = some r → r ≠ m ∧ H' r = some (.lst (dsuf z.cps.toList n))) → Q (.ref m) H'
def spByLengths : Sp := fun vs H Q _ => ∃ z : Str, vs = [.str z] ∧ z.length ≤ 200 ∧ ∀ (m : Addr) (H' : Hp), Same H H' → H m = none → H' m = some (.lst (tabI (z.cps.toList.length + 1) (dn z.cps.toList))) → Q (.ref m) H'
end L2
set_option Elab.async false
set_option linter.all false
set_option maxRecDepth 100000
namespace L2
open PySem PySem.Spec PyProof.Rows
open Sem (wp)
section
variable {prog : Program} {w : World} {A : Around} {E : Value → Shared → Prop} {h : Heap} {g : Array GenState} {d : Drawn} {t : Nat} {os : OsState} {a : Addr} {o : Obj}
end
end L2
set_option Elab.async false
set_option linter.all false
set_option maxRecDepth 100000
namespace L2
open PySem PySem.Spec PyProof.Rows
section
variable {X : Cx}
abbrev sgs (cs : List Nat) : List V := cs.map fun c => V.str (sg c)
def ExcP (T : String) (a : Addr) : Heap → Prop := fun h => ∃ o, h.get? a = some o ∧ o.cls = .type T
theorem ExcP.ok {Pg : Program} {w : World} {H : Hp} {h : Heap} {T : String} {a : Addr} (t : ExcP T a h) : ObjOk Pg w H h a (.ext (ExcP T a)) :=
  ⟨t, let ⟨o, e, _⟩ := t; ⟨_, e⟩, fun h1 h2 ⟨o, e, r⟩ k => ⟨o, k _ e, r⟩⟩
theorem ObjOk.ex {P : Program} {w : World} {H : Hp} {h : Heap} {a : Addr} {o : HO} (x : ObjOk P w H h a o) : ∃ u, h.get? a = some u := by
  cases o with
  | lst xs => obtain ⟨_, _, _, _, e⟩ := x; exact ⟨_, e⟩
  | tup xs => obtain ⟨_, _, _, ob, e, _⟩ := x; exact ⟨_, e⟩
  | dK kvs => obtain ⟨_, _, _, _, o, _, _, e, _⟩ := x; exact ⟨_, e⟩
  | dT kvs => obtain ⟨_, _, _, _, o, _, _, e, _⟩ := x; exact ⟨_, e⟩
  | set S n => obtain ⟨o, _, _, _, e, _⟩ := x; exact ⟨_, e⟩
  | ins C dx fs => obtain ⟨_, _, _, e, _⟩ := x; exact ⟨_, e⟩
  | own y => obtain ⟨_, e⟩ := x; exact ⟨_, e⟩
  | xd fs => obtain ⟨_, ⟨_, _, _, e, _⟩, _⟩ := x; exact ⟨_, e⟩
  | rng lo hi => obtain ⟨_, _, _, e⟩ := x; exact ⟨_, e⟩
  | frz ob u => obtain ⟨e, _⟩ := x; exact ⟨_, e⟩
  | tbl ps => exact ⟨_, (show h.get? a = some _ from x)⟩
  | met f y => exact ⟨_, (show h.get? a = some _ from x)⟩
  | ext φ => obtain ⟨_, e, _⟩ := x; exact e
end
end L2
set_option Elab.async false
set_option linter.all false
set_option maxRecDepth 100000
namespace L2
open PySem PySem.Spec PyProof.Rows
abbrev kvsOf (ps : List (Str × Int)) : List (Key × V) := ps.map fun p => (Sum.inr p.1, V.int p.2)
abbrev datOf (ps : List (Str × Int)) : List (PyData × PyData) := ps.map fun p => (PyData.str p.1, PyData.int p.2)
def rReprD : List V → Hp → VK → Prop := fun xs H Q => ∃ (a : Addr) (ps : List (Str × Int)), xs = [.ref a] ∧ H a = some (.dK (kvsOf ps)) ∧ (PyData.dict (datOf ps)).showable = true ∧ (PyData.dict (datOf ps)).shown.length ≤ sizeLine ∧ (PyData.dict (datOf ps)).depth ≤ 64 ∧
  Q (.str (PyData.dict (datOf ps)).shown) H
end L2
set_option Elab.async false
set_option linter.all false
set_option maxRecDepth 100000
namespace L2
open PySem PySem.Spec PyProof.Rows
theorem rep_room {k : Nat} {A : Around} (r : Room k A) : A.units + 66 < cLine := by have := r.un; omega
def fsts (cs : List Nat) : Nat → List Nat → Option (List Nat)
  | _, [] => some []
  | i, d :: ds => match nxt cs i (sg d) with
    | none => none
    | some k => (fsts cs (k + 1) ds).map (k :: ·)
def lsts (cs : List Nat) : Nat → List Nat → Option (List Nat)
  | _, [] => some []
  | e, d :: ds => match prv cs e (sg d) with
    | none => none
    | some k => (lsts cs k ds).map (k :: ·)
abbrev nInt (ks : List Nat) : List V := ks.map fun k => V.int (k : Nat)
def AtO (H : Hp) : Option (List Nat) → V → Prop
  | none, x => x = .non
  | some ks, x => ∃ a, x = .ref a ∧ H a = some (.lst (nInt ks))
theorem AtO.same {H H' : Hp} {o : Option (List Nat)} {x : V} (h : AtO H o x) (s : Same H H') : AtO H' o x := by
  cases o with
  | none => exact h
  | some ks => obtain ⟨a, e, q⟩ := h; exact ⟨a, e, s _ _ q⟩
/-- a told list, or none: new -/
def ToldO (H : Hp) (o : Option (List Nat)) (Q : VK) : Prop := match o with
  | none => ∀ H' : Hp, Same H H' → Q .non H'
  | some ks => ∀ (p : Addr) (H' : Hp), Same H H' → H p = none → H' p = some (.lst (nInt ks)) → Q (.ref p) H'
def Few : Option (List Nat) → Prop
  | none => True
  | some ks => ks.length ≤ 1000 ∧ ∀ k ∈ ks, k < 1000000
def spFirst : Sp := fun vs H Q _ => ∃ z y : Str, vs = [.str z, .str y] ∧ z.length ≤ 200 ∧ y.length ≤ 200 ∧ ToldO H (fsts z.cps.toList 0 y.cps.toList) Q
def lastP (cs ds : List Nat) : Option (List Nat) := (lsts cs cs.length ds.reverse).map List.reverse
def spLast : Sp := fun vs H Q _ => ∃ z y : Str, vs = [.str z, .str y] ∧ z.length ≤ 200 ∧ y.length ≤ 200 ∧ ToldO H (lastP z.cps.toList y.cps.toList) Q
def spSameL : Sp := fun vs H Q _ => ∃ (x y : V) (o : Option (List Nat)), vs = [x, y] ∧ AtO H o x ∧ AtO H o y ∧ Few o ∧ Q (.bl true) H
def spPart : Sp := fun vs H Q _ => ∃ (p : Addr) (z : Str), vs = [.ref p, .str z] ∧ HandAt H p ∧ IsRow z ∧ z.length ≤ 200 ∧ ∀ (x : Str) (H' : Hp), IsRow x → x.length ≤ z.length → HandAt H' p → Kp p H H' → Q (.str x) H'
def spOther : Sp := fun vs H Q _ => ∃ (p : Addr) (z : Str), vs = [.ref p, .str z] ∧ HandAt H p ∧ IsRow z ∧ z.length ≤ 80 ∧ ∀ (x : Str) (H' : Hp), IsRow x → x.length ≤ 80 → HandAt H' p → Kp p H H' → Q (.str x) H'
def spRight : Sp := fun vs H Q _ => ∃ z y : Str, vs = [.str z, .str y] ∧ z.length ≤ 200 ∧ y.length ≤ 200 ∧ ∀ H' : Hp, Same H H' → Q (.bl true) H'
end L2
set_option Elab.async false
set_option linter.all false
set_option maxRecDepth 100000
namespace L2
open PySem
def NewO (H : Hp) (x : V) : Prop := ∀ a, x = .ref a → H a = none
/-- a list of the callee's own, or none -/
def OwnL (H Hx : Hp) (p : Addr) (n : Nat) (x : V) : Prop := x = .non ∨ ∃ a xs, x = .ref a ∧ Hx a = some (.lst xs) ∧ xs.length ≤ n ∧ a ≠ p ∧ H a = none
theorem OwnL.of {H Hx : Hp} {p : Addr} {o : Option (List Nat)} {x : V} (h : AtO Hx o x) (fw : Few o) (n : NewO H x) (hp : ∀ a, x = .ref a → a ≠ p) : OwnL H Hx p 1000 x := by
  cases o with
  | none => exact .inl h
  | some ks => obtain ⟨a, e, q⟩ := h; exact .inr ⟨a, _, e, q, by rw [List.length_map]; exact fw.1, hp a e, n a e⟩
theorem OwnL.upd {H Hx : Hp} {p a : Addr} {n : Nat} {x : V} {ys : List V} (h : OwnL H Hx p n x) (hy : ys.length ≤ n + 1) : OwnL H (upd Hx a (.lst ys)) p (n + 1) x := by
  rcases h with h | ⟨b, xs, e, q, l, ne, hn⟩
  · exact .inl h
  · by_cases z : b = a
    · exact .inr ⟨b, ys, e, by rw [z]; exact upd_same, hy, ne, hn⟩
    · exact .inr ⟨b, xs, e, by rw [upd_ne z]; exact q, by omega, ne, hn⟩
theorem OwnL.mono {H Hx : Hp} {p : Addr} {n m : Nat} {x : V} (h : OwnL H Hx p n x) (k : n ≤ m) : OwnL H Hx p m x := by
  rcases h with h | ⟨b, xs, e, q, l, ne, hn⟩
  · exact .inl h
  · exact .inr ⟨b, xs, e, q, by omega, ne, hn⟩
theorem AtO.ne {H : Hp} {o : Option (List Nat)} {x : V} {p : Addr} (h : AtO H o x) (n : H p = none) : ∀ a, x = .ref a → a ≠ p := fun a e => by
  cases o with
  | none => rw [show x = .non from h] at e; cases e
  | some ks => obtain ⟨b, e2, q⟩ := h; rw [e2] at e; cases e; exact ne_of_none q n
end L2
set_option Elab.async false
set_option linter.all false
set_option maxRecDepth 100000
namespace L2
open PySem PySem.Spec PyProof.Rows
def Asc (z : Str) : Prop := ∀ c ∈ z.cps.toList, c < 128
theorem Asc.mul {x : Str} (h : Asc x) (n : Int) : Asc (mulS x n) := fun c hc => by
  rw [mul_cps] at hc
  obtain ⟨l, hl, hc⟩ := List.mem_flatten.mp hc
  rw [(List.mem_replicate.mp hl).2] at hc
  exact h c hc
def strsD (zs : List Str) : List PyData := zs.map PyData.str
inductive Th (H : Hp) : V → PyData → Prop
  | non : Th H .non .none
  | bl (b : Bool) : Th H (.bl b) (.bool b)
  | int (i : Int) (h : i.natAbs < 1000) : Th H (.int i) (.int i)
  | str (z : Str) (h : Asc z) (l : z.length ≤ 4000) : Th H (.str z) (.str z)
  | lst (a : Addr) (zs : List Str) (e : H a = some (.lst (zs.map V.str))) (h : ∀ z ∈ zs, Asc z ∧ z.length ≤ 4000) (l : (zs.map (·.length)).sum + zs.length ≤ 8000) : Th H (.ref a) (.list (strsD zs))
  | tup (a : Addr) (zs : List Str) (e : H a = some (.tup (zs.map V.str))) (h : ∀ z ∈ zs, Asc z ∧ z.length ≤ 4000) (l : (zs.map (·.length)).sum + zs.length ≤ 8000) : Th H (.ref a) (.tuple (strsD zs))
  | dct (a : Addr) (ps : List (Str × Int)) (e : H a = some (.dK (kvsOf ps))) (h : ∀ p ∈ ps, Asc p.1 ∧ p.1.length ≤ 4000 ∧ p.2.natAbs < 1000) (l : ps.length ≤ 1) : Th H (.ref a) (.dict (datOf ps))
theorem Th.same {H H' : Hp} {x : V} {d : PyData} (t : Th H x d) (s : Same H H') : Th H' x d := by
  cases t with
  | non => exact .non
  | bl b => exact .bl b
  | int i h => exact .int i h
  | str z h l => exact .str z h l
  | lst a zs e h l => exact .lst a zs (s _ _ e) h l
  | tup a zs e h l => exact .tup a zs (s _ _ e) h l
  | dct a ps e h l => exact .dct a ps (s _ _ e) h l
theorem Th.kp {H H' : Hp} {x : V} {d : PyData} {p : Addr} (t : Th H x d) (hp : HandAt H p) (k : Kp p H H') : Th H' x d := by
  obtain ⟨d1, r, hh, _⟩ := hp.ex
  cases t with
  | non => exact .non
  | bl b => exact .bl b
  | int i h => exact .int i h
  | str z h l => exact .str z h l
  | lst a zs e h l =>
    refine .lst a zs (k _ _ e (fun z => ?_)) h l
    subst z
    rw [hh] at e
    have e2 := HO.lst.inj (Option.some.inj e)
    cases zs with
    | nil => cases e2
    | cons z zs => cases e2
  | tup a zs e h l => exact .tup a zs (k _ _ e (ne_of e hh (by intro z; cases z))) h l
  | dct a ps e h l => exact .dct a ps (k _ _ e (ne_of e hh (by intro z; cases z))) h l
theorem asc_short {z : Str} (h : Asc z) : (z.cps.toList.all fun c => decide (c < 16 ^ 8)) = true := by
  rw [List.all_eq_true]
  intro c hc
  have := h c hc
  exact decide_eq_true (by omega)
theorem strs_short : ∀ zs : List Str, (∀ z ∈ zs, Asc z) → PyData.leavesShortAll 13 (strsD zs) = true
  | [], _ => rfl
  | z :: zs, h => by
    show ((z.cps.toList.all fun c => decide (c < 16 ^ 8)) && PyData.leavesShortAll 13 (strsD zs)) = true
    rw [asc_short (h z (List.mem_cons_self ..)), strs_short zs fun y hy => h y (List.mem_cons_of_mem _ hy)]; rfl
theorem strs_show : ∀ zs : List Str, PyData.showableAll (strsD zs) = true
  | [] => rfl
  | z :: zs => by show (true && PyData.showableAll (strsD zs)) = true; rw [strs_show zs]; rfl
theorem strs_nodict : ∀ zs : List Str, PyData.hasDictAll (strsD zs) = false
  | [] => rfl
  | z :: zs => strs_nodict zs
theorem strs_depth : ∀ zs : List Str, PyData.depthAll (strsD zs) = 0
  | [] => rfl
  | z :: zs => by show max (PyData.depth (.str z)) (PyData.depthAll (strsD zs)) = 0; rw [strs_depth zs]; rfl
theorem strs_weight : ∀ zs : List Str, PyData.weightAll (strsD zs) = (zs.map (·.length)).sum + zs.length
  | [] => rfl
  | z :: zs => by
    show z.cps.size + 1 + PyData.weightAll (strsD zs) = _
    rw [strs_weight zs, List.map_cons, List.sum_cons, List.length_cons]
    show z.length + 1 + _ = _
    omega
theorem strs_dp {K : PySem.W.Frag} {H : Hp} : ∀ zs : List Str, DpAll K H (zs.map V.str) (strsD zs)
  | [] => .nil
  | z :: zs => .cons (.str z) (strs_dp zs)
theorem int_shown {i : Int} (h : i.natAbs < 1000) : decide ((PyData.shown (.int i)).length ≤ 13) = true := decide_eq_true (PyData.shown_int_le (Nat.lt_trans h (by decide)))
theorem int_log {i : Int} (h : i.natAbs < 1000) : i.natAbs.log2 < 1920 := by
  by_cases e : i.natAbs = 0
  · rw [e]; decide
  · exact (Nat.log2_lt e).mpr (Nat.lt_of_lt_of_le h (Nat.le_trans (by decide : 1000 ≤ 2 ^ 10) (Nat.pow_le_pow_right (by decide) (by decide))))
/-- a thing's text is told -/
theorem Th.repr {K : PySem.W.Frag} {H : Hp} {x : V} {d : PyData} {Q : VK} (t : Th H x d) (q : Q (.str d.shown) H) : rRepr K [x] H Q ∨ rReprD [x] H Q := by
  cases t with
  | non => exact .inl ⟨_, _, rfl, .non, rfl, rfl, by decide, by decide +kernel, q⟩
  | bl b => exact .inl ⟨_, _, rfl, .bl b, rfl, rfl, by show 0 ≤ 64; decide, by cases b <;> decide +kernel, q⟩
  | int i h => exact .inl ⟨_, _, rfl, .int i, decide_eq_true (int_log h), rfl, by show 0 ≤ 64; decide, Nat.le_trans (PyData.shown_int_le (Nat.lt_trans h (by decide))) (by decide), q⟩
  | str z h l => exact .inl ⟨_, _, rfl, .str z, rfl, rfl, by show 0 ≤ 64; decide, PyData.shown_fits (B := 13) (by decide) (by decide) (asc_short h) (by show z.length ≤ _; omega), q⟩
  | lst a zs e h l =>
    refine .inl ⟨_, _, rfl, .lst (SqL.of e) (strs_dp zs), strs_show zs, strs_nodict zs, ?_, PyData.shown_fits (B := 13) (by decide) (by decide) (strs_short zs fun z hz => (h z hz).1) ?_, q⟩
    · show PyData.depthAll (strsD zs) + 1 ≤ 64
      rw [strs_depth]; decide
    · show PyData.weightAll (strsD zs) ≤ 2 ^ 20
      rw [strs_weight]
      exact Nat.le_trans l (by decide)
  | tup a zs e h l =>
    refine .inl ⟨_, _, rfl, .tup (SqT.of e) (strs_dp zs), strs_show zs, strs_nodict zs, ?_, PyData.shown_fits (B := 13) (by decide) (by decide) (strs_short zs fun z hz => (h z hz).1) ?_, q⟩
    · show PyData.depthAll (strsD zs) + 1 ≤ 64
      rw [strs_depth]; decide
    · show PyData.weightAll (strsD zs) ≤ 2 ^ 20
      rw [strs_weight]
      exact Nat.le_trans l (by decide)
  | dct a ps e h l =>
    refine .inr ⟨a, ps, rfl, e, ?_, PyData.shown_fits (B := 13) (by decide) (by decide) ?_ ?_, ?_, q⟩
    · match ps, l with
      | [], _ => rfl
      | [(z, n)], _ =>
        show (true && decide (n.natAbs.log2 < 1920) && true) = true
        rw [decide_eq_true (int_log (h (z, n) (List.mem_singleton.mpr rfl)).2.2)]; rfl
    · match ps, l with
      | [], _ => rfl
      | [(z, n)], _ =>
        have hz := h (z, n) (List.mem_singleton.mpr rfl)
        show ((z.cps.toList.all fun c => decide (c < 16 ^ 8)) && decide ((PyData.shown (.int n)).length ≤ 13) && true) = true
        rw [asc_short hz.1, int_shown hz.2.2]; rfl
    · match ps, l with
      | [], _ => exact Nat.zero_le _
      | [(z, n)], _ =>
        have hz := h (z, n) (List.mem_singleton.mpr rfl)
        have hlg : n.natAbs.log2 < 1920 := int_log hz.2.2
        have hzl : z.length ≤ 4000 := hz.2.1
        show z.length + (if n == 0 then 0 else n.natAbs.log2 + 1) + 2 + 0 ≤ 2 ^ 20
        split <;> omega
    · match ps, l with
      | [], _ => show 0 + 1 ≤ 64; decide
      | [(z, n)], _ => show max (max 0 0) 0 + 1 ≤ 64; decide
end L2
set_option Elab.async false
set_option linter.all false
set_option maxRecDepth 100000
set_option maxHeartbeats 8000000
namespace L2
open PySem
def spIsRow2 (K : PySem.W.Frag) (P : Addr) : Sp := fun vs H Q _ => ∃ x, vs = [x] ∧ ((∃ z : Str, x = .str z ∧ H P = some (.ext (TabP P)) ∧ Q (.bl (rowB z)) H) ∨ (IsI K H x "str" false ∧ Q (.bl false) H) ∨ ∃ a, x = .ref a ∧ H a = some (.ext (ExcP "ValueError" a)) ∧ Q (.bl false) H)
theorem strs_ok : ∀ zs : List Str, (∀ z ∈ zs, Asc z) → PyData.canLayAll0 (strsD zs) = true
  | [], _ => rfl
  | z :: zs, h => by
    have hz : (z.cps.all (· < 0x110000)) = true := by
      rw [← Array.all_toList, List.all_eq_true]
      intro c hc
      have := h z (List.mem_cons_self ..) c hc
      exact decide_eq_true (by omega)
    show ((z.cps.all (· < 0x110000)) && PyData.canLayAll0 (strsD zs)) = true
    rw [strs_ok zs fun y hy => h y (List.mem_cons_of_mem _ hy), hz]; rfl
theorem shaped_strs (zs : List Str) (h : ∀ z ∈ zs, Asc z) : SeqAt.shaped (.list (strsD zs)) = true := by
  show (PyData.canLayAll0 (strsD zs) && decide (PyData.depthAll (strsD zs) + 1 ≤ 64)) = true
  rw [strs_ok zs h, strs_depth]; rfl
def spFirst2 : Sp := fun vs H Q _ => ∃ z y : Str, vs = [.str z, .str y] ∧ z.length ≤ 200 ∧ y.length ≤ 4000 ∧ ToldO H (fsts z.cps.toList 0 y.cps.toList) Q
def spIsLeft2 (K : PySem.W.Frag) (P : Addr) : Sp := fun vs H Q _ => ∃ (z : Str) (x : V), vs = [.str z, x] ∧ z.length ≤ 200 ∧
  ((∃ y : Str, x = .str y ∧ y.length ≤ 4000 ∧ H P = some (.ext (TabP P)) ∧ ∀ H', Same H H' → Q (.bl (rowB y && (fsts z.cps.toList 0 y.cps.toList).isSome)) H') ∨ (IsI K H x "str" false ∧ Q (.bl false) H) ∨ ∃ a, x = .ref a ∧ H a = some (.ext (ExcP "ValueError" a)) ∧ Q (.bl false) H)
end L2
set_option Elab.async false
set_option linter.all false
namespace L2
open PySem
/-- a new thing, its heap by a name -/
theorem upS {H J : Hp} {p : Addr} {o : HO} (h : upd H p o = J) (n : H p = none) : Same H J := h ▸ same_new n o
theorem upE {H J : Hp} {p : Addr} {o : HO} (h : upd H p o = J) : J p = some o := h ▸ upd_same
/-- a cut behind a test -/
def tCutT (t : TT) : TT := fun σ H Q => ∃ R : Bool → Hp → Prop, t σ H R ∧ ∀ b H', R b H' → Q b H'
end L2
set_option Elab.async false
set_option linter.all false
set_option maxRecDepth 100000
namespace L2
open PySem PySem.Spec PyProof.Rows
section
variable {X : Cx} {es : List Expr} {te : TE} {t : TA}
theorem pa_Const {c1 : Const} {c2 : Nat} {c3 : Pos} (ha : PE X (.Constant c1 c2 c3) te) (hr : PA X es t) : PA X ((.Constant c1 c2 c3) :: es) (tCons te t) := pa_cons ha hr rfl
theorem pa_Name {c1 : Str} {c2 : Pos} (ha : PE X (.Name c1 c2) te) (hr : PA X es t) : PA X ((.Name c1 c2) :: es) (tCons te t) := pa_cons ha hr rfl
theorem pa_BinOp {c1 : Expr} {c2 : Operator} {c3 : Expr} {c4 : Pos} (ha : PE X (.BinOp c1 c2 c3 c4) te) (hr : PA X es t) : PA X ((.BinOp c1 c2 c3 c4) :: es) (tCons te t) := pa_cons ha hr rfl
theorem pa_Compare {c1 : Expr} {c2 : List CmpOp} {c3 : List Expr} {c4 : Pos} (ha : PE X (.Compare c1 c2 c3 c4) te) (hr : PA X es t) : PA X ((.Compare c1 c2 c3 c4) :: es) (tCons te t) := pa_cons ha hr rfl
theorem pa_Call {c1 : Expr} {c2 : List Expr} {c3 : List Keyword} {c4 : Pos} (ha : PE X (.Call c1 c2 c3 c4) te) (hr : PA X es t) : PA X ((.Call c1 c2 c3 c4) :: es) (tCons te t) := pa_cons ha hr rfl
theorem pa_Subscript {c1 c2 : Expr} {c3 : Pos} (ha : PE X (.Subscript c1 c2 c3) te) (hr : PA X es t) : PA X ((.Subscript c1 c2 c3) :: es) (tCons te t) := pa_cons ha hr rfl
theorem pa_Tuple {c1 : List Expr} {c2 : Nat} {c3 : Pos} (ha : PE X (.Tuple c1 c2 c3) te) (hr : PA X es t) : PA X ((.Tuple c1 c2 c3) :: es) (tCons te t) := pa_cons ha hr rfl
theorem pa_ListComp {c1 : Expr} {c2 : List Comprehension} {c3 : Scope} {c4 : Pos} (ha : PE X (.ListComp c1 c2 c3 c4) te) (hr : PA X es t) : PA X ((.ListComp c1 c2 c3 c4) :: es) (tCons te t) := pa_cons ha hr rfl
end
end L2
set_option Elab.async false
set_option linter.all false
set_option maxRecDepth 100000
namespace L2
open PySem PySem.Spec PyProof.Rows
structure DrawsAt (H : Hp) (p : Addr) : Prop where
  ex : ∃ ns : List Int, H p = some (.lst (ns.map V.int)) ∧ (∀ n ∈ ns, 0 ≤ n ∧ n < 1000) ∧ ns.length ≤ 240
theorem DrawsAt.kp {H H' : Hp} {p q : Addr} (h : DrawsAt H p) (k : Kp q H H') (n : p ≠ q) : DrawsAt H' p := by
  obtain ⟨ns, e, z⟩ := h.ex
  exact ⟨ns, k _ _ e n, z⟩
theorem DrawsAt.same {H H' : Hp} {p : Addr} (h : DrawsAt H p) (k : Same H H') : DrawsAt H' p := by
  obtain ⟨ns, e, z⟩ := h.ex
  exact ⟨ns, k _ _ e, z⟩
theorem DrawsAt.ne {H : Hp} {p q : Addr} (h : DrawsAt H p) (n : H q = none) : q ≠ p := by
  obtain ⟨ns, e, z⟩ := h.ex
  exact (ne_of_none e n).symm
def spDraws (K : PySem.W.Frag) : Sp := fun vs H Q _ => ∃ (a : Addr) (ns : List Int), vs = [.ref a] ∧ SqL K H a (ns.map V.int) ∧ Scr K H a (ns.map V.int) ∧ ns.length ≤ 63 ∧ ∀ (p : Addr) (H' : Hp), H p = none → DrawsAt H' p → Same H H' → Q (.ref p) H'
def spTake : Sp := fun vs H Q _ => ∃ (p : Addr) (L : Int), vs = [.ref p, .int L] ∧ DrawsAt H p ∧ 0 < L ∧ ∀ (v : Int) (H' : Hp), 0 ≤ v → v < L → DrawsAt H' p → Kp p H H' → Q (.int v) H'
def abcC (k : Int) : Nat := 97 + (k % 26).toNat
def spAbc : Sp := fun vs H Q _ => ∃ k : Int, vs = [.int k] ∧ Q (.str (sg (abcC k))) H
/-- some signs -/
structure SignsAt (H : Hp) (q : Addr) (cs : List Nat) : Prop where
  at_ : H q = some (.lst ((cs.map sg).map V.str))
  ne : cs ≠ []
  le : cs.length ≤ 26
  ok : ∀ c ∈ cs, 97 ≤ c ∧ c ≤ 122
theorem SignsAt.kp {H H' : Hp} {q p : Addr} {cs : List Nat} (h : SignsAt H q cs) (k : Kp p H H') (n : q ≠ p) : SignsAt H' q cs := ⟨k _ _ h.at_ n, h.ne, h.le, h.ok⟩
theorem SignsAt.same {H H' : Hp} {q : Addr} {cs : List Nat} (h : SignsAt H q cs) (k : Same H H') : SignsAt H' q cs := ⟨k _ _ h.at_, h.ne, h.le, h.ok⟩
theorem SignsAt.pos {H : Hp} {q : Addr} {cs : List Nat} (h : SignsAt H q cs) : 0 < cs.length := List.length_pos_iff.mpr h.ne
def spSigns : Sp := fun vs H Q _ => ∃ p, vs = [.ref p] ∧ DrawsAt H p ∧ ∀ (q : Addr) (cs : List Nat) (H' : Hp), SignsAt H' q cs → q ≠ p → H q = none → DrawsAt H' p → Kp p H H' → Q (.ref q) H'
structure GrowAt (C : Addr) (H : Hp) (g : Addr) (z : Str) : Prop where
  ex : ∃ dx, H g = some (.ins C dx [("letters", .str z)])
  row : IsRow z
  le : z.length ≤ 80
theorem GrowAt.same {C : Addr} {H H' : Hp} {g : Addr} {z : Str} (h : GrowAt C H g z) (s : Same H H') : GrowAt C H' g z := let ⟨dx, e⟩ := h.ex; ⟨⟨dx, s _ _ e⟩, h.row, h.le⟩
theorem GrowAt.kp {C : Addr} {H H' : Hp} {g p : Addr} {z : Str} (h : GrowAt C H g z) (k : Kp p H H') (n : g ≠ p) : GrowAt C H' g z := let ⟨dx, e⟩ := h.ex; ⟨⟨dx, k _ _ e n⟩, h.row, h.le⟩
theorem GrowAt.ne {C : Addr} {H : Hp} {g q : Addr} {z : Str} (h : GrowAt C H g z) (n : H q = none) : q ≠ g := by
  obtain ⟨dx, e⟩ := h.ex
  exact (ne_of_none e n).symm
def spGInit (C : Addr) : Sp := fun vs H Q _ => ∃ p dx : Addr, vs = [.ref p] ∧ H p = some (.ins C dx []) ∧ ∀ H', GrowAt C H' p (Str.ofString "") → Kp p H H' → Q .non H'
def spGPut (C P : Addr) : Sp := fun vs H Q _ => ∃ (g : Addr) (z : Str) (c : Nat), vs = [.ref g, .str (sg c)] ∧ GrowAt C H g z ∧ z.length < 80 ∧ (97 ≤ c ∧ c ≤ 122) ∧ H P = some (.ext (TabP P)) ∧ ∀ H', GrowAt C H' g (z ++ sg c) → Kp g H H' → Q .non H'
def undoS (z : Str) : Str := cutS z none (some (-1))
def spGUndo (C : Addr) : Sp := fun vs H Q _ => ∃ (g : Addr) (z : Str), vs = [.ref g] ∧ GrowAt C H g z ∧ (z.length = 0 → Q (.bl false) H) ∧ (0 < z.length → ∀ H', GrowAt C H' g (undoS z) → Kp g H H' → Q (.bl true) H')
def spGRow (C : Addr) : Sp := fun vs H Q _ => ∃ (g : Addr) (z : Str), vs = [.ref g] ∧ GrowAt C H g z ∧ Q (.str z) H
def spGMany (C : Addr) : Sp := fun vs H Q _ => ∃ (g : Addr) (z : Str), vs = [.ref g] ∧ GrowAt C H g z ∧ ∀ H', Same H H' → Q (.int (mn z.cps.toList)) H'
def spGLens (C : Addr) : Sp := fun vs H Q _ => ∃ (g : Addr) (z : Str), vs = [.ref g] ∧ GrowAt C H g z ∧ ∀ (m : Addr) (H' : Hp), Same H H' → H m = none → H' m = some (.lst (tabI (z.cps.toList.length + 1) (dn z.cps.toList))) → Q (.ref m) H'
end L2
set_option Elab.async false
set_option linter.all false
set_option maxRecDepth 100000
namespace L2
open PySem PySem.Spec PyProof.Rows
theorem tabI_ints (n : Nat) (f : Nat → Int) : tabI n f = ((List.range n).map f).map V.int := by rw [tabI, List.map_map]; rfl
/-- the heap but two things -/
def Kp2 (p g : Addr) (H H' : Hp) : Prop := ∀ b o, H b = some o → b ≠ p → b ≠ g → H' b = some o
theorem Kp2.refl (p g : Addr) (H : Hp) : Kp2 p g H H := fun _ _ h _ _ => h
theorem Kp2.trans {p g : Addr} {H H1 H2 : Hp} (a : Kp2 p g H H1) (b : Kp2 p g H1 H2) : Kp2 p g H H2 := fun c o h n m => b c o (a c o h n m) n m
def spLens : Sp := fun vs H Q _ => ∃ z : Str, vs = [.str z] ∧ z.length ≤ 200 ∧ ∀ (m : Addr) (H' : Hp), Same H H' → H m = none → H' m = some (.lst (tabI (z.cps.toList.length + 1) (dn z.cps.toList))) → Q (.ref m) H'
/-- what stands at the end of each letter -/
def BefAt (H : Hp) (d : Addr) (xs : List Nat) : Prop := ∃ kvs : List (Key × V), H d = some (.dK kvs) ∧ kvs.length ≤ xs.length ∧ ∀ c : Nat, (bef c xs = none → valV kvs (Sum.inr (sg c)) = none) ∧
  ∀ r, bef c xs = some r → ∃ q, valV kvs (Sum.inr (sg c)) = some (.ref q) ∧ q ≠ d ∧ H q = some (.lst (tabI (r.length + 1) (dn r)))
def spDeed (C P : Addr) : Sp := fun vs H Q _ => ∃ (p g q : Addr) (z : Str) (cs : List Nat), vs = [.ref p, .ref g, .str z, .ref q] ∧ DrawsAt H p ∧ GrowAt C H g z ∧ SignsAt H q cs ∧ q ≠ p ∧ H P = some (.ext (TabP P)) ∧
  ∀ (z' : Str) (H' : Hp), DrawsAt H' p → GrowAt C H' g z' → Kp2 p g H H' → Q (.str z') H'
def spBack (C : Addr) : Sp := fun vs H Q _ => ∃ (g : Addr) (z : Str), vs = [.ref g, .str z] ∧ GrowAt C H g z ∧ 0 < z.length ∧ ∀ H', GrowAt C H' g (undoS z) → Kp g H H' → Q (.bl true) H'
def spLong (P : Addr) : Sp := fun vs H Q _ => ∃ p : Addr, vs = [.ref p] ∧ DrawsAt H p ∧ H P = some (.ext (TabP P)) ∧ ∀ H', DrawsAt H' p → Kp p H H' → Q (.bl true) H'
end L2
set_option Elab.async false
set_option linter.all false
set_option maxRecDepth 100000
namespace L2
open PySem PySem.Spec PyProof.Rows
section
variable {X : Cx}
def rIndexS : V → List V → Hp → VK → Prop := fun x xs H Q => ∃ (z : Str) (c k : Nat), x = .str z ∧ xs = [.str (sg c)] ∧ nxt z.cps.toList 0 (sg c) = some k ∧ Q (.int (k : Nat)) H
end
def pickS (z : Str) (lo : Option Int) (k : Int) : Str := ⟨((Builtin.Str.strSliceIndices lo none k z.length).filterMap (z.cps[·]?)).toArray⟩
def tStepS (te : TE) : TE := fun σ H Q => te σ H fun x H1 => ∃ z, x = .str z ∧ z.length ≤ sizeLine ∧ ∀ w : Str, (∀ c ∈ w.cps.toList, c ∈ z.cps.toList) → w.length ≤ z.length → Q (.str w) H1
section
variable {X : Cx} {e : Expr} {te : TE}
end
end L2
set_option Elab.async false
set_option linter.all false
set_option maxRecDepth 100000
namespace L2
open PySem PySem.Spec PyProof.Rows
def spRowC : Sp := fun vs H Q _ => ∃ (p q : Addr) (m : Int) (cs : List Nat), vs = [.ref p, .ref q, .int m] ∧ DrawsAt H p ∧ SignsAt H q cs ∧ q ≠ p ∧ 0 ≤ m ∧ m ≤ 80 ∧ ∀ (x : Str) (H' : Hp), IsRow x → x.length ≤ 80 → (x.length : Int) ≤ m → DrawsAt H' p → Kp p H H' → Q (.str x) H'
def hasB (z y : Str) : Bool := rowB y && (fsts z.cps.toList 0 y.cps.toList).isSome
def spHas (K : PySem.W.Frag) (C P : Addr) : Sp := fun vs H Q E => ∃ (g : Addr) (z : Str) (x : V), vs = [.ref g, x] ∧ GrowAt C H g z ∧ spIsLeft2 K P [.str z, x] H Q E
def spGrown (C P : Addr) : Sp := fun vs H Q _ => ∃ z : Str, vs = [.str z] ∧ IsRow z ∧ z.length ≤ 80 ∧ H P = some (.ext (TabP P)) ∧ ∀ (g : Addr) (H' : Hp), H g = none → GrowAt C H' g z → Same H H' → Q (.ref g) H'
def AnsAt (H : Hp) (m q : Addr) (z w : Str) : Prop := H m = some (.lst [.bl (hasB z w), .ref q, .int (mn z.cps.toList), .str z, .bl (hasB z z)]) ∧ H q = some (.lst (tabI (z.cps.toList.length + 1) (dn z.cps.toList)))
def ansD (z w : Str) : PyData := .list [.bool (hasB z w), .list (((List.range (z.cps.toList.length + 1)).map (dn z.cps.toList)).map PyData.int), .int (mn z.cps.toList), .str z, .bool (hasB z z)]
theorem AnsAt.dp {K : PySem.W.Frag} {H : Hp} {m q : Addr} {z w : Str} (h : AnsAt H m q z w) : Dp K H (.ref m) (ansD z w) := by
  obtain ⟨h1, h2⟩ := h
  rw [tabI_ints] at h2
  exact .lst (SqL.of h1) (.cons (.bl _) (.cons (Dp.ints (SqL.of h2)) (.cons (.int _) (.cons (.str _) (.cons (.bl _) .nil)))))
theorem AnsAt.same {H H' : Hp} {m q : Addr} {z w : Str} (h : AnsAt H m q z w) (s : Same H H') : AnsAt H' m q z w := ⟨s _ _ h.1, s _ _ h.2⟩
def spAns (C P : Addr) : Sp := fun vs H Q _ => ∃ (g : Addr) (z w : Str), vs = [.ref g, .str w] ∧ GrowAt C H g z ∧ w.length ≤ 80 ∧ H P = some (.ext (TabP P)) ∧ ∀ (m q : Addr) (H' : Hp), Same H H' → H m = none → H q = none → AnsAt H' m q z w → Q (.ref m) H'
def spTab2 (C P : Addr) : Sp := fun vs H Q _ => ∃ (p g : Addr) (z w : Str), vs = [.ref p, .ref g, .str z, .str w] ∧ DrawsAt H p ∧ GrowAt C H g z ∧ w.length ≤ 80 ∧ H P = some (.ext (TabP P)) ∧ ∀ H', DrawsAt H' p → GrowAt C H' g z → Kp2 p g H H' → Q (.bl true) H'
def spOtherw (P : Addr) : Sp := fun vs H Q _ => ∃ (p : Addr) (z : Str), vs = [.ref p, .str z] ∧ DrawsAt H p ∧ IsRow z ∧ z.length ≤ 80 ∧ H P = some (.ext (TabP P)) ∧ ∀ H', DrawsAt H' p → Kp p H H' → Q (.bl true) H'
def takeS (z : Str) (t : Nat) : Str := ⟨(z.cps.toList.take t).toArray⟩
end L2
set_option Elab.async false
set_option linter.all false
set_option maxRecDepth 100000
namespace L2
open PySem PySem.Spec PyProof.Rows
def ThingL (K : PySem.W.Frag) (H : Hp) (v : V) : Prop := (∃ y : Str, v = .str y ∧ y.length ≤ 400) ∨ ∀ H', Same H H' → IsI K H' v "str" false
theorem ThingL.same {K : PySem.W.Frag} {H H' : Hp} {v : V} (h : ThingL K H v) (s : Same H H') : ThingL K H' v := h.imp id fun q H2 s2 => q H2 (s.trans s2)
def spIsLeftL : Sp := fun vs H Q _ => ∃ z y : Str, vs = [.str z, .str y] ∧ z.length ≤ 200 ∧ y.length ≤ 4000 ∧ Q (.bl (fsts z.cps.toList 0 y.cps.toList).isSome) H
def spWhole1 : Sp := fun vs H Q _ => ∃ n : Int, vs = [.int n] ∧ Q (.bl true) H
def spHasL (K : PySem.W.Frag) : Sp := fun vs H Q _ => ∃ (z : Str) (x : V), vs = [.str z, x] ∧ z.length ≤ 200 ∧ ((∃ y : Str, x = .str y ∧ y.length ≤ 4000 ∧ ∀ H', Same H H' → Q (.bl (hasB z y)) H') ∨ (IsI K H x "str" false ∧ Q (.bl false) H))
def spAsked (K : PySem.W.Frag) : Sp := fun vs H Q _ => ∃ (p q0 : Addr) (z : Str) (cs : List Nat), vs = [.ref p, .str z, .ref q0] ∧ DrawsAt H p ∧ SignsAt H q0 cs ∧ q0 ≠ p ∧ IsRow z ∧ z.length ≤ 80 ∧ ∀ (v : V) (H' : Hp), ThingL K H' v → DrawsAt H' p → Kp p H H' → Q v H'
structure HeldL (H : Hp) (h : Addr) (X : List Addr) (n : Nat) : Prop where
  ne : h ∉ X
  ex : ∃ ts : List Addr, H h = some (.lst (ts.map V.ref)) ∧ ts.length ≤ n ∧ ∀ t ∈ ts, t ≠ h ∧ t ∉ X ∧ ∃ (a b : Addr) (ns : List Int), H t = some (.tup [.ref a, .ref b]) ∧ a ≠ h ∧ a ∉ X ∧ b ≠ h ∧ b ∉ X ∧ H a = some (.lst (ns.map V.int)) ∧ H b = some (.lst (ns.map V.int))
theorem HeldL.keep {H H' : Hp} {h : Addr} {X : List Addr} {n : Nat} (x : HeldL H h X n) (up : ∀ (b : Addr) (o : HO), H b = some o → b ∉ X → (∀ C dx fs, o ≠ .ins C dx fs) → H' b = some o) : HeldL H' h X n := by
  obtain ⟨ts, e, l, r⟩ := x.ex
  refine ⟨x.ne, ts, up _ _ e x.ne (fun _ _ _ z => nomatch z), l, fun t ht => ?_⟩
  obtain ⟨n1, n2, a, b, ns, e1, n3, n4, n5, n6, e2, e3⟩ := r t ht
  exact ⟨n1, n2, a, b, ns, up _ _ e1 n2 (fun _ _ _ z => nomatch z), n3, n4, n5, n6, up _ _ e2 n4 (fun _ _ _ z => nomatch z), up _ _ e3 n6 (fun _ _ _ z => nomatch z)⟩
theorem HeldL.kp {H H' : Hp} {h p : Addr} {X : List Addr} {n : Nat} (x : HeldL H h X n) (hp : p ∈ X) (k : Kp p H H') : HeldL H' h X n := x.keep fun b o e nX _ => k b o e fun z => nX (z ▸ hp)
theorem HeldL.same {H H' : Hp} {h : Addr} {X : List Addr} {n : Nat} (x : HeldL H h X n) (k : Same H H') : HeldL H' h X n := x.keep fun b o e _ _ => k b o e
theorem HeldL.mono {H : Hp} {h : Addr} {X : List Addr} {n m : Nat} (x : HeldL H h X n) (l : n ≤ m) : HeldL H h X m := let ⟨ts, e, l', r⟩ := x.ex; ⟨x.ne, ts, e, Nat.le_trans l' l, r⟩
theorem HeldL.more {H : Hp} {h l : Addr} {X : List Addr} {n : Nat} (x : HeldL H h X n) (e : H l = none) : HeldL H h (l :: X) n := by
  obtain ⟨ts, e0, l', r⟩ := x.ex
  have nn : ∀ {b : Addr} {o : HO}, H b = some o → b ∉ X → b ∉ l :: X := fun eb nb z => by
    rcases List.mem_cons.mp z with z | z
    · rw [z, e] at eb; cases eb
    · exact nb z
  refine ⟨nn e0 x.ne, ts, e0, l', fun t ht => ?_⟩
  obtain ⟨n1, n2, a, b, ns, e1, n3, n4, n5, n6, e2, e3⟩ := r t ht
  exact ⟨n1, nn e1 n2, a, b, ns, e1, n3, nn e2 n4, n5, nn e3 n6, e2, e3⟩
theorem HeldL.push {H : Hp} {h t a b : Addr} {X : List Addr} {n : Nat} {ns : List Int} (x : HeldL H h X n) (et : H t = some (.tup [.ref a, .ref b])) (ea : H a = some (.lst (ns.map V.int))) (eb : H b = some (.lst (ns.map V.int))) (n1 : t ≠ h) (n2 : t ∉ X) (n3 : a ≠ h) (n4 : a ∉ X) (n5 : b ≠ h) (n6 : b ∉ X) :
    ∃ acc, H h = some (.lst acc) ∧ acc.length ≤ n ∧ HeldL (upd H h (.lst (acc ++ [.ref t]))) h X (n + 1) := by
  obtain ⟨ts, e, l, r⟩ := x.ex
  refine ⟨_, e, by rw [List.length_map]; exact l, x.ne, ts ++ [t], by rw [upd_same, List.map_append]; rfl, by rw [List.length_append]; exact Nat.succ_le_succ l, fun u hu => ?_⟩
  rcases List.mem_append.mp hu with hu | hu
  · obtain ⟨m1, m2, a, b, ns, e1, m3, m4, m5, m6, e2, e3⟩ := r u hu
    exact ⟨m1, m2, a, b, ns, by rw [upd_ne m1]; exact e1, m3, m4, m5, m6, by rw [upd_ne m3]; exact e2, by rw [upd_ne m5]; exact e3⟩
  · rw [List.mem_singleton.mp hu]
    exact ⟨n1, n2, a, b, ns, by rw [upd_ne n1]; exact et, n3, n4, n5, n6, by rw [upd_ne n3]; exact ea, by rw [upd_ne n5]; exact eb⟩
/-- all of these stand -/
def Stand (H : Hp) (X : List Addr) : Prop := ∀ x ∈ X, ∃ o, H x = some o
def spDoor (C P : Addr) : Sp := fun vs H Q _ => ∃ (p g q0 h : Addr) (X : List Addr) (z : Str) (way : Int) (cs : List Nat) (n : Nat), vs = [.ref p, .ref g, .str z, .int way, .ref q0, .ref h] ∧ DrawsAt H p ∧ GrowAt C H g z ∧ SignsAt H q0 cs ∧ q0 ≠ p ∧ p ∈ X ∧ Stand H X ∧ HeldL H h X n ∧ n ≤ 500 ∧ H P = some (.ext (TabP P)) ∧ 0 ≤ way ∧ way ≤ 3 ∧
  ∀ H', DrawsAt H' p → HeldL H' h X (n + 1) → Kp2 p h H H' → Q (.bl true) H'
def spStands (C P : Addr) : Sp := fun vs H Q _ => ∃ (p g q0 h : Addr) (z : Str) (cs : List Nat) (n : Nat), vs = [.ref p, .ref g, .str z, .ref q0, .ref h] ∧ DrawsAt H p ∧ GrowAt C H g z ∧ SignsAt H q0 cs ∧ q0 ≠ p ∧ q0 ≠ h ∧ HeldL H h [p] n ∧ n ≤ 490 ∧ H P = some (.ext (TabP P)) ∧
  ∀ H', DrawsAt H' p → HeldL H' h [p] (n + 4) → Kp2 p h H H' → Q (.bl true) H'
def spHeldStay : Sp := fun vs H Q _ => ∃ (h : Addr) (X : List Addr) (n : Nat), vs = [.ref h] ∧ HeldL H h X n ∧ n ≤ 500 ∧ ∀ H', Same H H' → Q (.bl true) H'
end L2
set_option Elab.async false
set_option linter.all false
set_option maxRecDepth 100000
set_option maxHeartbeats 1000000
namespace L2
open PySem PySem.Spec PyProof.Rows
theorem lay_led (t : SetTable) (es : Array (Int × Value)) (h : Int) (x : Value) : (layNew t es h x).2.1.led = t.led := by
  unfold layNew
  split
  · show (SetTable.orStandIn _ _).led = t.led
    unfold SetTable.orStandIn
    split <;> rfl
  · rfl
theorem relay_led (t : SetTable) (es : Array (Int × Value)) (n : Nat) : (relayAll t es n).2.1.led = t.led := by
  unfold relayAll
  split
  · rename_i t' order e
    have e2 : t'.led = t.led := by
      unfold SetTable.relaid SetTable.laid at e
      simp only [Option.bind_eq_bind] at e
      obtain ⟨ow, _, e⟩ := Option.bind_eq_some_iff.mp e
      cases e; rfl
    dsimp only
    split
    · exact e2
    · rfl
  · rfl
theorem relay_plain (t : SetTable) (es : Array (Int × Value)) (n : Nat) (h : t.plain = false) : (relayAll t es n).2.1.plain = false := by
  unfold relayAll
  split
  · rename_i t' order e
    have e2 : t'.plain = t.plain := by
      unfold SetTable.relaid SetTable.laid at e
      simp only [Option.bind_eq_bind] at e
      obtain ⟨ow, _, e⟩ := Option.bind_eq_some_iff.mp e
      cases e; rfl
    dsimp only
    split
    · rw [e2]; exact h
    · rfl
  · rfl
section
variable {prog : Program} {w : World} {A : Around} {E : Value → Shared → Prop} {s : Shared}
structure SR (prog : Program) (w : World) (h : Heap) (a : Addr) (es : List (Int × Value)) (led : Bool) : Prop where
  ex : ∃ (o : Obj) (ea : Array (Int × Value)) (ep : Nat) (t : SetTable), h.get? a = some o ∧ o.ExactSet ∧ o.data = .set ea ep t ∧ ea.toList = es ∧ t.fits ea.size = true ∧ t.led = led ∧ (ea.size = 0 ∨ t.plain = false)
  el : ElemsOf (PySem.strKind prog w) es
  bd : es.length < 4000
theorem SR.at {h h' : Heap} {a : Addr} {es : List (Int × Value)} {led : Bool} (x : SR prog w h a es led) (k : ∀ o, h.get? a = some o → h'.get? a = some o) : SR prog w h' a es led := by
  obtain ⟨o, ea, ep, t, h1, r⟩ := x.ex
  exact ⟨⟨o, ea, ep, t, k _ h1, r⟩, x.el, x.bd⟩
theorem add_tail {g : Bool → Sem Unit} (hg : ∀ (b : Bool) (s₁ : Shared) (Q' : Unit → Shared → Prop), Q' () s₁ → wpAny (model prog w) A (g b) Q' E s₁)
    {a : Addr} {o : Obj} {es : Array (Int × Value)} {ep : Nat} {t : SetTable} (ho : s.heap.get? a = some o) (hex : o.ExactSet) (hd : o.data = .set es ep t)
    {es1 : Array (Int × Value)} {t2 : SetTable} (hel1 : ElemsOf (PySem.strKind prog w) es1.toList) (hb1 : es1.size < 4000) (hf2 : t2.fits es1.size = true) (hp2 : t2.plain = false) {led : Bool} (hled : t2.led = led) {wasDummy : Bool} {R : Option Bool → Shared → Prop}
    (h : ∀ h' es', Heap.SameBut a s.heap h' → SR prog w h' a es' led → es'.Perm es1.toList → R (some true) { s with heap := h' }) :
    wpAny (model prog w) A (do
        storeSet a es1 t2
        if (!wasDummy && t2.tooFull) = true then do
            g (relayAll t2 es1 (SetTable.grown es1.size)).2.2
            storeSet a (relayAll t2 es1 (SetTable.grown es1.size)).1 (relayAll t2 es1 (SetTable.grown es1.size)).2.1
            pure (some true)
          else pure (some true)) R E s := by
  have big : ∀ {n : Nat}, n < 4000 → n ≤ sizeLine := fun hn => Nat.le_trans (Nat.le_of_lt hn) (by decide)
  have got : ∀ {h : Heap} {o : Obj} {es : Array (Int × Value)} {ep : Nat} {t : SetTable} (es' : Array (Int × Value)) (t' : SetTable), h.get? a = some o → o.data = .set es ep t → (h.update a (Obj.putSet es' t')).get? a = some { o with data := .set es' (ep + 1) t' } := by
    intro h o es ep t es' t' ho hd
    have := Heap.get?_update_self (Obj.putSet es' t') ho (by rw [putSet_of es' t' hd]; rfl)
    rw [putSet_of es' t' hd] at this; exact this
  refine wpAny_bind (wpAny_storeSet_of ho hd ?_ (big hb1))
  have ho1 := got es1 t2 ho hd
  have hsb1 := Heap.SameBut.update s.heap a (Obj.putSet es1 t2)
  split
  · have hp := relayAll_perm t2 es1 (SetTable.grown es1.size)
    have hfr := relayAll_fits t2 es1 (SetTable.grown es1.size)
    have hld := relay_led t2 es1 (SetTable.grown es1.size)
    have hpl := relay_plain t2 es1 (SetTable.grown es1.size) hp2
    generalize hRl : relayAll t2 es1 (SetTable.grown es1.size) = Rl at hp hfr hld hpl ⊢
    obtain ⟨es2, t3, gave2⟩ := Rl
    dsimp only at hp hfr hld hpl ⊢
    have hsz : es2.size = es1.size := by rw [← Array.length_toList, hp.length_eq, Array.length_toList]
    have hb2 : es2.size < 4000 := by rw [hsz]; exact hb1
    refine wpAny_bind (hg _ _ _ ?_)
    refine wpAny_bind (wpAny_storeSet_of ho1 rfl ?_ (big hb2))
    have ho2 := got es2 t3 ho1 rfl
    exact wpAny_pure (h _ es2.toList (hsb1.trans (Heap.SameBut.update _ a _)) ⟨⟨_, es2, _, t3, ho2, hex, rfl, rfl, hfr, hld.trans hled, .inr hpl⟩, hel1.perm hp, by rw [Array.length_toList]; exact hb2⟩ hp)
  · exact wpAny_pure (h _ es1.toList hsb1 ⟨⟨_, es1, _, t2, ho1, hex, rfl, rfl, hf2, hled, .inr hp2⟩, hel1, by rw [Array.length_toList]; exact hb1⟩ .rfl)
theorem add_str {a : Addr} {es : List (Int × Value)} {led : Bool} {x : Str} {t₀ : Tok} {Q : Bool → Shared → Prop} (S : SR prog w s.heap a es led) (hb : es.length + 1 < 4000)
    (hF : (∃ e ∈ es, (PySem.strKind prog w).is x e.2 = true) → Q false s)
    (hA : (∀ e ∈ es, (PySem.strKind prog w).is x e.2 = false) → ∀ h' es', Heap.SameBut a s.heap h' → SR prog w h' a es' led → es'.Perm (es ++ [((PySem.strKind prog w).hash x, .str x t₀)]) → Q true { s with heap := h' }) :
    wpAny (model prog w) A (setAddHashed a (.str x t₀) ((PySem.strKind prog w).hash x)) Q E s := by
  obtain ⟨⟨o, ea, ep, t, ho, hex, hd, he, hf, hl, hpl⟩, hel, _⟩ := S
  subst he
  have hkey : (PySem.strKind prog w).is x (.str x t₀) = true := strKind_is prog w x t₀
  have hsc : (Value.str x t₀).scannable = true := rfl
  have hbs : ea.size < scanBound := by
    rw [Array.length_toList] at hb
    exact Nat.lt_trans (by omega) (by decide : 4000 < scanBound)
  unfold setAddHashed setAddHashedIn
  refine wpAny_holding (wpAny_bind (wpAny_setState_of ho hd hf ?_))
  dsimp only
  rw [byScan_of hsc hbs hel]
  simp only [↓reduceIte]
  unfold setAddByScan
  refine wpAny_bind ?_
  refine wpAny_bind (wpAny_rule ?_)
  refine wpAny_bind (wpAny_setScan_of hkey ho hd hf hel ?_)
  cases hr : List.findIdx? (fun e => (PySem.strKind prog w).is x e.2) ea.toList with
  | some j =>
    dsimp only
    obtain ⟨hj, hpj, _⟩ := List.findIdx?_eq_some_iff_getElem.mp hr
    exact wpAny_pure (wpAny_pure (hF ⟨ea.toList[j], List.getElem_mem hj, hpj⟩))
  | none =>
    dsimp only
    have hno := List.findIdx?_eq_none_iff.mp hr
    have hgw : ∀ (b : Bool) {s₁ : Shared} {Q' : Unit → Shared → Prop}, Q' () s₁ → wpAny (model prog w) A (match b with | true => rule "set.scan.the-table-gave-way" | false => pure ()) Q' E s₁ :=
      fun b s₁ Q' hq => by cases b <;> first | exact wpAny_pure hq | exact wpAny_rule hq
    have hperm := layNew_perm t ea ((PySem.strKind prog w).hash x) (.str x t₀)
    have hfits := layNew_fits t ea ((PySem.strKind prog w).hash x) (.str x t₀)
    have hled := lay_led t ea ((PySem.strKind prog w).hash x) (.str x t₀)
    generalize hL : layNew t ea ((PySem.strKind prog w).hash x) (.str x t₀) = L at hperm hfits hled ⊢
    obtain ⟨es1, t1, wasDummy, gave⟩ := L
    dsimp only at hperm hfits hled ⊢
    rw [Array.toList_push] at hperm
    have hel1 : ElemsOf (PySem.strKind prog w) es1.toList := (hel.push hkey hsc).perm hperm
    have hb1' : es1.size < 4000 := by rw [← Array.length_toList, hperm.length_eq, List.length_append]; exact hb
    refine wpAny_bind (hgw _ ?_)
    have hend : ∀ h' es', Heap.SameBut a s.heap h' → SR prog w h' a es' led → es'.Perm es1.toList → Q true { s with heap := h' } := fun h' es' h1 h2 h3 => hA (fun e he => by simpa using hno e he) h' es' h1 h2 (h3.trans hperm)
    split
    · refine wpAny_bind ?_
      rw [hashByValue_scannable 8 hsc]
      refine wpAny_pure ?_
      refine add_tail ?_ ho hex hd hel1 hb1' (t2 := { t1 with plain := false }) (SetTable.fits_plain_off hfits) rfl (hled.trans hl) ?_
      · intro b s₁ Q' hq; cases b <;> first | exact wpAny_pure hq | exact wpAny_rule hq
      · intro h' es' hsb hS' hp'; dsimp only; exact wpAny_pure (hend h' es' hsb hS' hp')
    · rename_i hnp
      refine wpAny_bind (wpAny_pure ?_)
      simp only [↓reduceIte]
      refine add_tail ?_ ho hex hd hel1 hb1' hfits (by simpa using hnp) (hled.trans hl) ?_
      · intro b s₁ Q' hq; cases b <;> first | exact wpAny_pure hq | exact wpAny_rule hq
      · intro h' es' hsb hS' hp'; dsimp only; exact wpAny_pure (hend h' es' hsb hS' hp')
end
end L2
set_option Elab.async false
set_option linter.all false
set_option maxRecDepth 100000
set_option maxHeartbeats 3200000
namespace L2
open PySem PySem.Spec PyProof.Rows
def codeV : Value → Nat
  | .str x _ => x.cps.getD 0 0
  | _ => 0
/-- the set at S holds the signs of cs -/
structure SC (prog : Program) (w : World) (h : Heap) (S : Addr) (led : Bool) (cs : List Nat) : Prop where
  ex : ∃ es : List (Int × Value), SR prog w h S es led ∧ (∀ e ∈ es, ∃ c t, e.2 = .str (sg c) t) ∧ (es.map (fun e => codeV e.2)).Nodup ∧ ∀ c, c ∈ es.map (fun e => codeV e.2) ↔ c ∈ cs
section
variable {prog : Program} {w : World} {A : Around} {E : Value → Shared → Prop} {s : Shared}
theorem SC.at {h h' : Heap} {S : Addr} {led : Bool} {cs : List Nat} (x : SC prog w h S led cs) (k : ∀ o, h.get? S = some o → h'.get? S = some o) : SC prog w h' S led cs := by
  obtain ⟨es, a, b⟩ := x.ex
  exact ⟨es, a.at k, b⟩
end
end L2
set_option Elab.async false
set_option linter.all false
set_option maxRecDepth 100000
set_option maxHeartbeats 3200000
namespace L2
open PySem PySem.Spec PyProof.Rows
section
variable {prog : Program} {w : World} {A : Around} {E : Value → Shared → Prop} {s : Shared}
end
end L2
set_option Elab.async false
set_option linter.all false
set_option maxRecDepth 100000
namespace L2
open PySem PySem.Spec PyProof.Rows
def tLenSet (ta : TA) : TE := fun σ H Q => ta σ H fun vs H1 => ∃ z : Str, vs = [.str z] ∧ z.length < 3900 ∧ ∀ ds : List Nat, ds.Nodup → (∀ c, c ∈ ds ↔ c ∈ z.cps.toList) → Q (.int (ds.length : Nat)) H1
end L2
set_option Elab.async false
set_option linter.all false
set_option maxRecDepth 100000
namespace L2
open PySem PySem.Spec PyProof.Rows
/-- from which length on it is left -/
def begO (cs ys : List Nat) : Nat := match fsts cs 0 ys with | none => cs.length + 1 | some ks => match ks.getLast? with | none => 0 | some k => k + 1
def spOtherC : Sp := fun vs H Q _ => ∃ (p q0 : Addr) (z : Str) (cs : List Nat), vs = [.ref p, .str z, .ref q0, .int 80] ∧ DrawsAt H p ∧ SignsAt H q0 cs ∧ q0 ≠ p ∧ IsRow z ∧ z.length ≤ 80 ∧ ∀ (x : Str) (H' : Hp), IsRow x → x.length ≤ 80 → DrawsAt H' p → Kp p H H' → Q (.str x) H'
def spRightG (P : Addr) : Sp := fun vs H Q _ => ∃ z y : Str, vs = [.str z, .str y] ∧ IsRow z ∧ IsRow y ∧ z.length ≤ 80 ∧ y.length ≤ 80 ∧ H P = some (.ext (TabP P)) ∧ ∀ H', Same H H' → Q (.bl true) H'
theorem dpAll_bls {K : PySem.W.Frag} {H : Hp} : ∀ bs : List Bool, DpAll K H (bs.map V.bl) (bs.map PyData.bool)
  | [] => .nil
  | b :: bs => .cons (.bl b) (dpAll_bls bs)
theorem Dp.bls {K : PySem.W.Frag} {H : Hp} {a : Addr} {bs : List Bool} (h : SqL K H a (bs.map V.bl)) : Dp K H (.ref a) (.list (bs.map PyData.bool)) := .lst h (dpAll_bls bs)
end L2
set_option Elab.async false
set_option linter.all false
set_option maxRecDepth 100000
namespace L2
open PySem
/-- the places from at on that have the letter -/
def spotsN (xs : List Nat) (y : Nat) : Nat → Nat → List Nat
  | _, 0 => []
  | at_, d + 1 => if xs[at_]? = some y then at_ :: spotsN xs y (at_ + 1) d else spotsN xs y (at_ + 1) d
def spots (xs : List Nat) (y at_ : Nat) : List Nat := spotsN xs y at_ (xs.length - at_)
/-- which of the places, and what is left of the number -/
def pkL (F : Nat → Nat) : List Nat → Nat → Option (Nat × Nat)
  | [], _ => none
  | s :: sp, k => if k < F (s + 1) then some (s, k) else pkL F sp (k - F (s + 1))
/-- how many ways begin with a place of [at, at + d) -/
def ahs (xs : List Nat) (y : Nat) (ys : List Nat) (at_ : Nat) : Nat → Nat
  | 0 => 0
  | d + 1 => ahs xs y ys at_ d + if xs[at_ + d]? = some y then wys (xs.drop (at_ + d + 1)) ys else 0
/-- the way of a number -/
def wayP (xs : List Nat) : List Nat → Nat → Nat → Option (List Nat)
  | [], _, _ => some []
  | y :: ys, at_, n => match pkL (fun p => wys (xs.drop p) ys) (spots xs y at_) n with
    | none => none
    | some (s, k) => (wayP xs ys (s + 1) k).map (s :: ·)
/-- what the law tells of a way -/
inductive Way (xs : List Nat) : List Nat → Nat → List Nat → Nat → Prop
  | nil (at_ : Nat) : Way xs [] at_ [] 0
  | cons {y : Nat} {ys : List Nat} {at_ s : Nat} {w : List Nat} {k : Nat} (h1 : at_ ≤ s) (h2 : s < xs.length) (h3 : xs[s]? = some y) (h4 : k < wys (xs.drop (s + 1)) ys) (t : Way xs ys (s + 1) w k) : Way xs (y :: ys) at_ (s :: w) (ahs xs y ys at_ (s - at_) + k)
theorem Way.len {xs ys : List Nat} {at_ : Nat} {w : List Nat} {n : Nat} (h : Way xs ys at_ w n) : w.length = ys.length := by
  induction h with
  | nil => rfl
  | cons _ _ _ _ _ ih => rw [List.length_cons, List.length_cons, ih]
theorem Way.all {xs ys : List Nat} {at_ : Nat} {w : List Nat} {n : Nat} (h : Way xs ys at_ w n) : ∀ s ∈ w, at_ ≤ s ∧ s < xs.length := by
  induction h with
  | nil => exact fun _ h => nomatch h
  | cons h1 h2 h3 h4 t ih =>
    intro s hs
    rcases List.mem_cons.mp hs with rfl | hs
    · exact ⟨h1, h2⟩
    · obtain ⟨a, b⟩ := ih s hs
      exact ⟨by omega, b⟩
end L2
set_option Elab.async false
set_option linter.all false
set_option maxRecDepth 100000
namespace L2
open PySem PySem.Spec PyProof.Rows
def tLR (ta : TA) : TE := fun σ H Q => ta σ H fun vs H1 => ∃ j : Nat, vs = [.int (j : Int)] ∧ j ≤ 10000 ∧ ∀ p, H1 p = none → Q (.ref p) (upd H1 p (.lst (tabI j fun i => (i : Int))))
end L2
set_option Elab.async false
set_option linter.all false
set_option maxRecDepth 100000
namespace L2
open PySem PySem.Spec PyProof.Rows
def Big (i : Int) : Prop := i.natAbs < 2 ^ 200
theorem Way.fin {xs ys : List Nat} {at_ n : Nat} (h : Way xs ys at_ [] n) : n = 0 := by
  cases h
  rfl
theorem Way.word {xs ys : List Nat} {at_ : Nat} {w : List Nat} {n : Nat} (h : Way xs ys at_ w n) : w.map (fun s => xs.getD s 0) = ys := by
  induction h with
  | nil => rfl
  | cons h1 h2 h3 h4 t ih =>
    rw [List.map_cons, ih, List.getD_eq_getElem?_getD, h3]; rfl
end L2
set_option Elab.async false
set_option linter.all false
set_option maxRecDepth 100000
namespace L2
open PySem PySem.Spec PyProof.Rows
/-- ways to take so many -/
def ch : Nat → Nat → Nat
  | _, 0 => 1
  | 0, _ + 1 => 0
  | n + 1, k + 1 => ch n k + ch n (k + 1)
def lasti (c : Nat) (xs : List Nat) : Int := match bef c xs with | none => -1 | some r => (r.length : Int)
section
variable {X : Cx}
def rRfindS : V → List V → Hp → VK → Prop := fun x xs H Q => ∃ (z : Str) (c : Nat), x = .str z ∧ xs = [.str (sg c)] ∧ Q (.int (lasti c z.cps.toList)) H
end
def nextL (c : Nat) : Nat := if c = 122 then 97 else c + 1
def spCalled : Sp := fun vs H Q _ => ∃ z : Str, vs = [.str z] ∧ IsRow z ∧ z.length ≤ 200 ∧ ∀ (y : Str) (H' : Hp), y.cps.toList = z.cps.toList.map nextL → Same H H' → Q (.str y) H'
def spRight1 : Sp := fun vs H Q _ => ∃ z : Str, vs = [.str z] ∧ IsRow z ∧ z.length ≤ 80 ∧ ∀ H', Same H H' → Q (.bl true) H'
def spMoreR : Sp := fun vs H Q _ => ∃ (z : Str) (c : Nat), vs = [.str z, .str (sg c)] ∧ z.length ≤ 80 ∧ ∀ H', Same H H' → Q (.bl true) H'
def spApartR : Sp := fun vs H Q _ => ∃ z y : Str, vs = [.str z, .str y] ∧ IsRow z ∧ IsRow y ∧ z.length ≤ 80 ∧ y.length ≤ 80 ∧ ∀ H', Same H H' → Q (.bl true) H'
end L2
namespace L2
open PySem PySem.Spec PyProof.Rows
def lowL (c : Nat) : Nat := 97 + (c - 97) % 13
def highL (c : Nat) : Nat := 97 + (13 + (c - 97) % 13)
end L2
set_option Elab.async false
set_option linter.all false
set_option maxRecDepth 100000
set_option maxHeartbeats 1600000
namespace L2
open PySem PySem.Spec PyProof.Rows
def iGLst (K : PySem.W.Frag) (te : TE) : TIG := fun σ H R => te σ H fun v H1 => ∃ p xs, v = .ref p ∧ SqL K H1 p xs ∧ R xs.length (fun i => xs[i]?) H1
section
variable {X : Cx} {e : Expr} {te : TE}
theorem pig_list (he : PE X e te) : PIG X e (iGLst X.K te) := by
  intro pins s σ H R I h
  refine thn (he pins s σ H _ I h) fun v s1 ⟨y, H1, I1, r1, p, xs, ey, hq, q⟩ => ?_
  subst ey
  cases r1
  obtain ⟨its, rv, pl, hz⟩ := I1.list hq
  refine wpAny_pyIter_list pl.isList ?_
  have hlt : p < s1.heap.objs.size := let ⟨_, _, e, _⟩ := pl; Heap.lt_size e
  have I2 : Inv X pins σ H1 { s1 with heap := s1.heap.push { cls := .type "list_iterator", data := .fields #[.ref p, .int 0 0] } } := I1.kept (t' := s1.toks) fun b o e => Heap.get?_push_of_some _ e
  refine ⟨s1.heap.objs.size, [s1.heap.objs.size, p], xs.length, fun i u => its.toArray[i]? = some u, fun i h => h.IsListIter s1.heap.objs.size p i ∧ h.IsList p its.toArray, fun i => xs[i]?, H1, rfl, I2, I1.fpOk (Nat.le_refl _) (I1.hok.fresh (Nat.le_refl _)), fun b hb => ?_, fun b hb P hP => ?_, fun A' hA => ?_, ⟨⟨_, Heap.get?_push_size _ rfl, rfl, rfl⟩, pl.isList.at fun o e => Heap.get?_push_of_some _ e⟩, fun i u hu => ?_, q⟩
  · show b < (s1.heap.push _).objs.size
    rw [Heap.size_push]
    rcases List.mem_cons.mp hb with e | e
    · rw [e]; exact Nat.lt_succ_self _
    · rw [List.mem_singleton.mp e]; exact Nat.lt_succ_of_lt hlt
  · rcases List.mem_cons.mp hb with e | e
    · subst e
      rw [I1.hok.fresh (Nat.le_refl _)] at hP; cases hP
    · rw [List.mem_singleton.mp e] at hP
      rcases hq with (h | ⟨o, h⟩) | ⟨o, _, _, hk, _⟩
      · rw [h] at hP; cases hP
      · rw [h] at hP; cases hP
      · have := (I1.bs p o (I1.mod.kin p o hk)).2
        rw [this] at hP; cases hP
  · have := Walks.list (prog := X.prog) (w := X.w) hA s1.heap.objs.size p (Nat.ne_of_lt hlt) its.toArray
    have e : its.toArray.size = xs.length := by rw [List.size_toArray]; exact rv.length.symm
    rw [e] at this
    exact this
  · have hu' : its[i]? = some u := by rw [← hu, List.getElem?_toArray]
    have hi : i < xs.length := by rw [rv.length]; exact (List.getElem?_eq_some_iff.mp hu').1
    have hx : xs[i]? = some xs[i] := List.getElem?_eq_getElem hi
    obtain ⟨u2, e2, r2⟩ := rv.get hx
    rw [hu'] at e2
    cases e2
    exact ⟨_, hx, r2⟩
theorem call_int_text : CallR X (.type "int") (fun xs H Q => ∃ z n, xs = [.str z] ∧ PySem.intText? z = some n ∧ z.length ≤ 640 ∧ Q (.int n) H) := by
  intro pins s σ H xs us Q I r h
  obtain ⟨z, n, rfl, hn, hz, q⟩ := h
  obtain ⟨u, rfl, t, rfl⟩ := vals1 r
  exact PySem.W.KIN.call_text hn hz ⟨.int n, H, I.tok _, ⟨_, rfl⟩, q⟩
end
theorem big_of {n : Int} (h0 : 0 ≤ n) (h : n < 10 ^ 30) : n.natAbs < 2 ^ 100 := by
  have : (10 : Int) ^ 30 ≤ 2 ^ 100 := by decide
  have e : ((2 ^ 100 : Nat) : Int) = (2 : Int) ^ 100 := Int.natCast_pow 2 100
  have : (n.natAbs : Int) < ((2 ^ 100 : Nat) : Int) := by rw [e]; omega
  exact Int.ofNat_lt.mp this
theorem log_of {n : Int} (h1 : n.natAbs < 2 ^ 100) : n.natAbs.log2 < 1920 := by
  by_cases e : n.natAbs = 0
  · rw [e]; decide
  · exact (Nat.log2_lt e).mpr (Nat.lt_of_lt_of_le h1 (Nat.pow_le_pow_right (by decide) (by decide)))
theorem digs_len : ∀ (k m : Nat), m < 10 ^ (k + 1) → (Nat.toDigits 10 m).length ≤ k + 1
  | 0, m, h => by rw [Nat.toDigits_of_lt_base (by simpa using h)]; exact Nat.le_refl _
  | k + 1, m, h => by
    by_cases hm : m < 10
    · rw [Nat.toDigits_of_lt_base hm]; show 1 ≤ _; omega
    · have t : Nat.toDigits 10 (m / 10) ++ Nat.toDigits 10 (m % 10) = Nat.toDigits 10 (10 * (m / 10) + m % 10) := Nat.toDigits_append_toDigits (by decide) (by omega) (Nat.mod_lt m (by decide))
      rw [Nat.div_add_mod] at t
      rw [← t, List.length_append, Nat.toDigits_of_lt_base (Nat.mod_lt m (by decide))]
      have := digs_len k (m / 10) (by rw [Nat.pow_succ] at h; omega)
      show _ + 1 ≤ _
      omega
theorem digs_head : ∀ m : Nat, 0 < m → ∃ c r, Nat.toDigits 10 m = c :: r ∧ c ≠ '0' := by
  intro m
  induction m using Nat.strongRecOn with
  | _ m ih =>
    intro h0
    by_cases hm : m < 10
    · rw [Nat.toDigits_of_lt_base hm]
      refine ⟨_, _, rfl, ?_⟩
      have : ∀ d : Nat, d < 10 → 0 < d → Nat.digitChar d ≠ '0' := by decide
      exact this m hm h0
    · have t : Nat.toDigits 10 (m / 10) ++ Nat.toDigits 10 (m % 10) = Nat.toDigits 10 (10 * (m / 10) + m % 10) := Nat.toDigits_append_toDigits (by decide) (by omega) (Nat.mod_lt m (by decide))
      rw [Nat.div_add_mod] at t
      obtain ⟨c, r, e, hc⟩ := ih (m / 10) (by omega) (by omega)
      exact ⟨c, _, by rw [← t, e]; rfl, hc⟩
abbrev numS (n : Int) : Str := Str.ofString (toString n)
theorem numS_cps (m : Nat) : (numS (m : Int)).cps.toList = (Nat.toDigits 10 m).map Char.toNat := PySem.W.KIN.signs_num m
theorem numS_digits (m : Nat) : ∀ c ∈ (numS (m : Int)).cps.toList, 48 ≤ c ∧ c ≤ 57 := by
  intro c hc
  rw [numS_cps] at hc
  obtain ⟨ch, hch, e⟩ := List.mem_map.mp hc
  have r := digit_range (Nat.isDigit_of_mem_toDigits (by decide) (by decide) hch)
  rw [← e]
  exact r
theorem numS_ne (m : Nat) : (numS (m : Int)).cps.toList ≠ [] := by
  rw [numS_cps]
  intro e
  rcases Nat.eq_zero_or_pos m with h | h
  · subst h
    exact absurd e (by decide)
  · obtain ⟨c, r, e2, _⟩ := digs_head m h
    rw [e2] at e; cases e
theorem numS_len {m : Nat} (h : m < 10 ^ 30) : 1 ≤ (numS (m : Int)).length ∧ (numS (m : Int)).length ≤ 30 := by
  have e : (numS (m : Int)).length = (numS (m : Int)).cps.toList.length := by simp [Str.length]
  have h1 := digs_len 29 m h
  have h2 := numS_ne m
  rw [e]
  refine ⟨List.length_pos_iff.mpr h2, ?_⟩
  rw [numS_cps, List.length_map]
  exact h1
theorem figB_of {c : Nat} (h : 48 ≤ c ∧ c ≤ 57) : figB c = true := by
  unfold figB
  rw [show (Str.ofString "0").cps.toList = [48] by decide +kernel, show (Str.ofString "9").cps.toList = [57] by decide +kernel]
  rw [decide_eq_false (fun e => by have := (lt_one _ _).mp e; omega), decide_eq_false (fun e => by have := (lt_one _ _).mp e; omega)]
  rfl
/-- numbers from 0, below 10^30, few -/
def NL (ns : List Int) : Prop := ns.length ≤ 100 ∧ ∀ n ∈ ns, 0 ≤ n ∧ n < 10 ^ 30
def showL (ns : List Int) : Str := if ns = [] then ("-" : Str) else Txt.join (" " : Str) (ns.map numS)
theorem tl_num {n : Int} (h : 0 ≤ n ∧ n < 10 ^ 30) : ∃ m : Nat, n = (m : Int) ∧ m < 10 ^ 30 := by
  obtain ⟨m, rfl⟩ := Int.eq_ofNat_of_zero_le h.1
  refine ⟨m, rfl, ?_⟩
  have := h.2
  have e : ((10 ^ 30 : Nat) : Int) = (10 : Int) ^ 30 := Int.natCast_pow 10 30
  rw [← e] at this
  exact Int.ofNat_lt.mp this
end L2
set_option Elab.async false
set_option linter.all false
set_option maxRecDepth 100000
set_option maxHeartbeats 1600000
namespace L2
open PySem PySem.Spec PyProof.Rows
section
variable {X : Cx}
theorem op_fdivL : OpR X (binaryOp .FloorDiv) (rI (fun _ j => 0 < j ∧ j < 2 ^ 64) fun i j => .int (i / j)) := opI fun i j _ _ _ _ _ hc q => by
  have h1 : (0 : Int) < j := hc.1
  have h2 : j < 2 ^ 64 := hc.2
  have e : j.natAbs < 2 ^ 64 := by
    have e : ((2 ^ 64 : Nat) : Int) = (2 : Int) ^ 64 := Int.natCast_pow 2 64
    omega
  have h3 : j.natAbs.log2 < 64 := (Nat.log2_lt (by omega)).mpr e
  exact floordiv_int (by omega) (by rw [Int.fdiv_eq_ediv_of_nonneg i (by omega)]; exact q) (Or.inl (PyProof.noPylong_of_log2 (by omega)))
end
/-- a deck of draws: three numbers, the last the draws so far -/
def DeckAt (H : Hp) (p : Addr) (N : Int) : Prop := ∃ a b c : Int, H p = some (.lst [.int a, .int b, .int c]) ∧ 0 ≤ c ∧ c ≤ N
theorem DeckAt.same {H H' : Hp} {p : Addr} {N : Int} (d : DeckAt H p N) (s : Same H H') : DeckAt H' p N := let ⟨a, b, c, e, h⟩ := d; ⟨a, b, c, s _ _ e, h⟩
theorem DeckAt.ne {H : Hp} {p q : Addr} {N : Int} (d : DeckAt H p N) (h : H q = none) : q ≠ p := fun z => let ⟨_, _, _, e, _⟩ := d; by rw [z, e] at h; cases h
theorem DeckAt.mono {H : Hp} {p : Addr} {N M : Int} (d : DeckAt H p N) (h : N ≤ M) : DeckAt H p M := let ⟨a, b, c, e, h0, h1⟩ := d; ⟨a, b, c, e, h0, by omega⟩
theorem DeckAt.upd {H : Hp} {p q : Addr} {N : Int} (d : DeckAt H p N) (h : p ≠ q) (o : HO) : DeckAt (upd H q o) p N := let ⟨a, b, c, e, h0⟩ := d; ⟨a, b, c, by rw [upd_ne h]; exact e, h0⟩
def spTakeD : Sp := fun vs H Q _ => ∃ (p : Addr) (m N : Int), vs = [.ref p, .int m] ∧ DeckAt H p N ∧ N ≤ 1000000 ∧ 0 < m ∧ m < 2 ^ 64 ∧ ∀ v H', 0 ≤ v → v < m → DeckAt H' p (N + 1) → Kp p H H' → Q (.int v) H'
def spDeckD : Sp := fun vs H Q _ => ∃ (a k : Int), vs = [.int a, .int k] ∧ 0 ≤ k ∧ k ≤ 1000 ∧ ∀ p H', H p = none → DeckAt H' p k → Same H H' → Q (.ref p) H'
def spNumberD : Sp := fun vs H Q _ => ∃ (p : Addr) (N : Int), vs = [.ref p] ∧ DeckAt H p N ∧ N ≤ 100000 ∧ ∀ v H', 0 ≤ v → v < 10 ^ 30 → DeckAt H' p (N + 2) → Kp p H H' → Q (.int v) H'
def spWritten (K : PySem.W.Frag) : Sp := fun vs H Q _ => ∃ (p : Addr) (ns : List Int), vs = [.ref p] ∧ SqL K H p (ns.map V.int) ∧ NL ns ∧ ∀ H', Same H H' → Q (.str (showL ns)) H'
def spShowL (K : PySem.W.Frag) : Sp := spWritten K
def spReadL (P T : Addr) : Sp := fun vs H Q _ => ∃ ns : List Int, vs = [.str (showL ns)] ∧ NL ns ∧ H P = some (.ext (TabP P)) ∧ H T = some (.ext (TabP T)) ∧ ∀ p H', H p = none → H' p = some (.lst (ns.map V.int)) → Same H H' → Q (.ref p) H'
theorem same_ov {H H1 : Hp} (s : Same H H1) {q : Addr} {o : HO} (h : H q = none) : Same H (upd H1 q o) := fun b u e => by
  rw [upd_ne (ne_of_none e h)]; exact s b u e
theorem kp_set (p : Addr) (H : Hp) (o : HO) : Kp p H (upd H p o) := fun b u e ne => by rw [upd_ne ne]; exact e
theorem same_none {H H' : Hp} (s : Same H H') {p : Addr} (h : H' p = none) : H p = none := by
  cases e : H p with
  | none => rfl
  | some o => rw [s _ _ e] at h; cases h
theorem joinL_len (S : List Nat) : ∀ ps : List (List Nat), (TL.joinL S ps).length ≤ (ps.map (·.length)).sum + ps.length * S.length
  | [] => Nat.zero_le _
  | [p] => by show p.length ≤ p.length + 0 + 1 * _; omega
  | p :: q :: r => by
    have ih := joinL_len S (q :: r)
    show (p ++ (S ++ TL.joinL S (q :: r))).length ≤ p.length + (((q :: r).map (·.length)).sum) + ((q :: r).length + 1) * S.length
    rw [List.length_append, List.length_append, Nat.add_mul]
    omega
/-- what is held: texts and their numbers -/
def HeldW (H : Hp) (h : Addr) (m : Nat) : Prop := ∃ ts : List Addr, H h = some (.lst (ts.map V.ref)) ∧ ts.length ≤ m ∧ ∀ t ∈ ts, t ≠ h ∧ ∃ (ns : List Int) (l : Addr), H t = some (.tup [.str (showL ns), .ref l]) ∧ l ≠ h ∧ H l = some (.lst (ns.map V.int)) ∧ NL ns
theorem showable_nl : ∀ ns : List Int, (∀ n ∈ ns, n.natAbs < 2 ^ 100) → PyData.showableAll (ns.map PyData.int) = true
  | [], _ => rfl
  | n :: ns, h => by
    show (decide (n.natAbs.log2 < 1920) && PyData.showableAll (ns.map PyData.int)) = true
    rw [showable_nl ns fun m hm => h m (List.mem_cons_of_mem _ hm), decide_eq_true (log_of (h n (List.mem_cons_self ..)))]; rfl
theorem int_nl {n : Int} (h : n.natAbs < 2 ^ 100) : (PyData.shown (.int n)).length ≤ 41 := by
  have e := int_text_length_le10 (k := 40) (by decide) (Nat.lt_trans h (by decide : (2 : Nat) ^ 100 < 10 ^ 40))
  show (Str.ofString (toString n)).length ≤ 41
  rw [PySem.ofString_length]; exact e
theorem len_nl : ∀ ns : List Int, (∀ n ∈ ns, n.natAbs < 2 ^ 100) → ((PyData.shownAll (ns.map PyData.int)).map (·.length)).sum + 2 * (PyData.shownAll (ns.map PyData.int)).length ≤ 43 * ns.length
  | [], _ => Nat.le_refl _
  | n :: ns, h => by
    have ih := len_nl ns fun m hm => h m (List.mem_cons_of_mem _ hm)
    have h1 := int_nl (h n (List.mem_cons_self ..))
    show (((PyData.shown (.int n)).length :: (PyData.shownAll (ns.map PyData.int)).map (·.length)).sum) + 2 * ((PyData.shownAll (ns.map PyData.int)).length + 1) ≤ 43 * (ns.length + 1)
    rw [List.sum_cons]
    omega
def spNever : Sp := fun _ _ _ _ => False
theorem fnNever {P : Program} {w : World} {K : PySem.W.Frag} {mg : Str → Option Value} {base : Heap} {k : Nat} {f : Addr} {fd : FuncData} {ps : List Str} : FnOk P w K mg base CX0 k f fd ps spNever :=
  ⟨fun _ _ _ _ h => h.elim, fun _ _ _ _ _ _ _ _ _ _ _ _ _ h => h.elim⟩
end L2
set_option Elab.async false
set_option linter.all false
set_option maxRecDepth 100000
namespace L2
open PySem PySem.Spec PyProof.Rows
end L2
namespace L2
open PySem PySem.Spec PyProof.Rows
def rLtL (K : PySem.W.Frag) : R2 := fun x y H Q => ∃ (a b : Addr) (ns ms : List Nat) (j p q : Nat), x = .ref a ∧ y = .ref b ∧ SqL K H a (ns.map fun k => V.int (k : Nat)) ∧ SqL K H b (ms.map fun k => V.int (k : Nat)) ∧ ns[j]? = some p ∧ ms[j]? = some q ∧ p < q ∧ ns.take j = ms.take j ∧ Q (.bl true) H
end L2
set_option Elab.async false
set_option linter.all false
set_option maxRecDepth 100000
namespace L2
open PySem PySem.Spec PyProof.Rows
/-- all but the exception and the frames' slots stays -/
structure But (fs : List Addr) (ch : List Addr) (h h' : Heap) : Prop where
  keep : ∀ b o, b ∉ ch → b ∉ fs → h.get? b = some o → h'.get? b = some o
  slot : ∀ b o, b ∉ ch → h.get? b = some o → ∃ sl, h'.get? b = some { o with slots := sl }
/-- an exception with a trace at T whose flight is fl -/
structure FlyAt (h : Heap) (e T : Addr) (cls fl : Value) : Prop where
  ex : ∃ oe vs oT ts, h.get? e = some oe ∧ oe.cls = cls ∧ oe.data = Data.fields vs ∧ vs[1]? = some (Value.ref T) ∧ T ≠ e ∧ h.get? T = some oT ∧ oT.data = Data.fields ts ∧ ts[3]? = some fl
section
variable {M : Model} {A : Around} {E : Value → Shared → Prop} {s : Shared} {env : Env} {outer : List Env} {base : Heap} {L e : Addr} {oe : Obj} {vs : Array Value} {Q : Unit → Shared → Prop}
theorem note_entry (hA : A.frames = some (env :: outer)) (hF : s.heap.FunFrames base (env :: outer)) (hf : env.frame = some L) (he : s.heap.get? e = some oe) (hd : oe.data = .fields vs) (hsz : 1 < vs.size) (hne : e ∉ (env :: outer).filterMap (·.frame)) (head : Value) (hn : Bool)
    (h : ∀ (h' : Heap) (T : Addr), But ((env :: outer).filterMap (·.frame)) [e] s.heap h' → s.heap.get? T = none → FlyAt h' e T oe.cls (rawInt (L : Int)) → Q () { s with heap := h' }) :
    wpAny M A (do
      let a ← PySem.frameOf env
      let pl ← entryPlaceOf L hn
      let b ← EntryCells.newEntry head a Value.none (rawInt (L : Int)) Value.none pl
      setField (Value.ref e) 1 b) Q E s := by
  refine wpAny_bind (wpAny_frameOf_fun hA hF hf fun h1 so => ?_)
  refine wpAny_bind (wpAny_entryPlaceOf fun pl hpl => ?_)
  unfold EntryCells.newEntry newFields
  refine wpAny_bind (wpAny_newObj_type ?_ (by
    rcases hpl with rfl | ⟨a, b, c, d, c9, b10, _, rfl⟩
    · show 11 ≤ sizeLine + 2; decide
    · show 11 ≤ sizeLine + 2; decide))
  dsimp only
  have he1 : h1.get? e = some oe := by rw [so.2.1 e hne]; exact he
  generalize hts : ([head, Value.ref L, Value.none, rawInt (L : Int), Value.none] ++ if pl.isEmpty = true then List.replicate 6 Value.none else pl).toArray = ts
  have ts3 : ts[3]? = some (rawInt (L : Int)) := by rw [← hts]; simp
  have he2 : (h1.push { cls := Value.type "traceback", data := Data.fields ts }).get? e = some oe := Heap.get?_push_of_some _ he1
  refine wpAny_setField he2 hd hsz ?_
  have hlt : e < h1.objs.size := Heap.lt_size he1
  have hT : s.heap.get? h1.objs.size = none := Heap.get?_none_of_le (by rw [so.1]; exact Nat.le_refl _)
  have nTe : h1.objs.size ≠ e := Nat.ne_of_gt hlt
  have other : ∀ b, b ≠ e → ((h1.push { cls := Value.type "traceback", data := Data.fields ts }).update e (Obj.mapFields fun x => x.setIfInBounds 1 (Value.ref h1.objs.size))).get? b = (h1.push { cls := Value.type "traceback", data := Data.fields ts }).get? b := fun b hb => Heap.get?_update_other _ _ (Ne.symm hb)
  refine h _ h1.objs.size ⟨fun b o hb hfs hg => ?_, fun b o hb hg => ?_⟩ hT ⟨_, vs.setIfInBounds 1 (.ref h1.objs.size), _, ts, Heap.get?_update_self _ he2 ?_, ?_, ?_, ?_, nTe, (by rw [other _ nTe]; exact Heap.get?_push_size _ rfl), rfl, ts3⟩
  · rw [other b (fun z => hb (by rw [z]; exact List.mem_singleton.mpr rfl))]
    exact Heap.get?_push_of_some _ (by rw [so.2.1 b hfs]; exact hg)
  · obtain ⟨sl, q⟩ := so.2.2 b o hg
    refine ⟨sl, ?_⟩
    rw [other b (fun z => hb (by rw [z]; exact List.mem_singleton.mpr rfl))]
    exact Heap.get?_push_of_some _ q
  · obtain ⟨cls, dct, data, sl⟩ := oe
    simp only at hd
    subst hd
    rfl
  · obtain ⟨cls, dct, data, sl⟩ := oe
    simp only at hd
    subst hd
    rfl
  · obtain ⟨cls, dct, data, sl⟩ := oe
    simp only at hd
    subst hd
    rfl
  · rw [Array.getElem?_setIfInBounds, if_pos rfl, if_pos hsz]
/-- the first frame that it leaves, or is caught in -/
theorem note_first (hA : A.frames = some (env :: outer)) (hF : s.heap.FunFrames base (env :: outer)) (hf : env.frame = some L) (he : s.heap.get? e = some oe) (hd : oe.data = .fields vs) (h1 : vs[1]? = some Value.none) (hne : e ∉ (env :: outer).filterMap (·.frame))
    (h : ∀ (h' : Heap) (T : Addr), But ((env :: outer).filterMap (·.frame)) [e] s.heap h' → s.heap.get? T = none → FlyAt h' e T oe.cls (rawInt (L : Int)) → Q () { s with heap := h' }) : wpAny M A (noteFrame (Value.ref e) env) Q E s := by
  unfold noteFrame
  rw [hf]
  refine wpAny_bind (wpAny_field he hd h1 ?_)
  rw [if_neg (by decide)]
  have hsz : 1 < vs.size := by
    rcases Nat.lt_or_ge 1 vs.size with q | q
    · exact q
    · rw [Array.getElem?_eq_none q] at h1; cases h1
  exact note_entry hA hF hf he hd hsz hne _ _ h
/-- its flight ends -/
theorem fly_none {T : Addr} {cls fl : Value} (hF : FlyAt s.heap e T cls fl) (h : ∀ h' : Heap, But [] [T] s.heap h' → FlyAt h' e T cls Value.none → Q () { s with heap := h' }) : wpAny M A (setFlight (Value.ref e) none) Q E s := by
  obtain ⟨oe, vs, oT, ts, he, hc, hd, h1, nT, hT, hdT, h3⟩ := hF.ex
  unfold setFlight
  refine wpAny_bind (wpAny_field he hd h1 ?_)
  rw [if_pos (show (Value.ref T != Value.none) = true from rfl)]
  have hsz : 3 < ts.size := by
    rcases Nat.lt_or_ge 3 ts.size with q | q
    · exact q
    · rw [Array.getElem?_eq_none q] at h3; cases h3
  refine wpAny_setField (x := Value.none) hT hdT hsz ?_
  have other : ∀ b, b ≠ T → (s.heap.update T (Obj.mapFields fun x => x.setIfInBounds 3 Value.none)).get? b = s.heap.get? b := fun b hb => Heap.get?_update_other _ _ (Ne.symm hb)
  refine h _ ⟨fun b o hb _ hg => by rw [other b (fun z => hb (by rw [z]; exact List.mem_singleton.mpr rfl))]; exact hg, fun b o hb hg => ⟨o.slots, by rw [other b (fun z => hb (by rw [z]; exact List.mem_singleton.mpr rfl))]; exact hg⟩⟩ ⟨oe, vs, _, ts.setIfInBounds 3 Value.none, by rw [other e (Ne.symm nT)]; exact he, hc, hd, h1, nT, Heap.get?_update_self _ hT ?_, ?_, ?_⟩
  · obtain ⟨cls, dct, data, sl⟩ := oT
    simp only at hdT
    subst hdT
    rfl
  · obtain ⟨cls, dct, data, sl⟩ := oT
    simp only at hdT
    subst hdT
    rfl
  · rw [Array.getElem?_setIfInBounds, if_pos rfl, if_pos hsz]
end
end L2
set_option Elab.async false
set_option linter.all false
set_option maxRecDepth 100000
namespace L2
open PySem PySem.Spec PyProof.Rows
theorem But.frames {fs ch : List Addr} {h h' base : Heap} (b : But fs ch h h') : ∀ {l : List Env}, (∀ c ∈ frs l, c ∉ ch) → h.FunFrames base l → h'.FunFrames base l
  | [], _, _ => trivial
  | env :: r, hs, hl => by
    obtain ⟨hk, ⟨L, o, hf, hn, ho, hd⟩, hr⟩ := hl
    have hL : L ∈ frs (env :: r) := by unfold frs; rw [List.filterMap_cons, hf]; exact List.mem_cons_self
    obtain ⟨sl, e⟩ := b.slot L o (hs L hL) ho
    exact ⟨hk, ⟨L, _, hf, hn, e, hd⟩, b.frames (fun c hc => hs c (by unfold frs at hc ⊢; rw [List.filterMap_cons, hf]; exact List.mem_cons_of_mem _ hc)) hr⟩
theorem But.mono {fs fs' ch ch' : List Addr} {h h' : Heap} (b : But fs ch h h') (h1 : ∀ x ∈ fs, x ∈ fs') (h2 : ∀ x ∈ ch, x ∈ ch') : But fs' ch' h h' :=
  ⟨fun c o n1 n2 => b.keep c o (fun z => n1 (h2 c z)) (fun z => n2 (h1 c z)), fun c o n => b.slot c o (fun z => n (h2 c z))⟩
theorem But.trans {fs ch : List Addr} {h h1 h2 : Heap} (a : But fs ch h h1) (b : But fs ch h1 h2) : But fs ch h h2 :=
  ⟨fun c o n1 n2 q => b.keep c o n1 n2 (a.keep c o n1 n2 q), fun c o n q => by
    obtain ⟨sl, e⟩ := a.slot c o n q
    obtain ⟨sl', e'⟩ := b.slot c _ n e
    exact ⟨sl', e'⟩⟩
theorem not_frame {h base : Heap} {l : List Env} (hF : h.FunFrames base l) {a : Addr} {o : Obj} {vs : Array Value} (e : h.get? a = some o) (d : o.data = .fields vs) : a ∉ frs l := fun z => by
  obtain ⟨_, o', ho, hd⟩ := hF.mem z
  rw [e] at ho
  cases ho
  exact hd vs d
section
variable {M : Model} {A : Around} {E : Value → Shared → Prop} {s : Shared} {env : Env} {outer : List Env} {base : Heap} {L e : Addr} {Q : Unit → Shared → Prop}
/-- one more frame notes it -/
theorem note_more {T : Addr} {cls : Value} (hA : A.frames = some (env :: outer)) (hF : s.heap.FunFrames base (env :: outer)) (hf : env.frame = some L) (hE : FlyAt s.heap e T cls Value.none)
    (h : ∀ (h' : Heap) (T2 : Addr), But (frs (env :: outer)) [e, T] s.heap h' → s.heap.get? T2 = none → FlyAt h' e T2 cls (rawInt (L : Int)) → Q () { s with heap := h' }) : wpAny M A (noteFrame (Value.ref e) env) Q E s := by
  obtain ⟨oe, vs, oT, ts, he, hc, hd, h1, nT, hT, hdT, h3⟩ := hE.ex
  unfold noteFrame
  rw [hf]
  refine wpAny_bind (wpAny_field he hd h1 ?_)
  rw [if_pos (show (Value.ref T != Value.none) = true from rfl)]
  refine wpAny_bind (wpAny_field hT hdT h3 ?_)
  rw [if_neg (show ¬ ((Value.none == rawInt (L : Int)) = true) from Bool.false_ne_true)]
  have hsz : 3 < ts.size := by
    rcases Nat.lt_or_ge 3 ts.size with q | q
    · exact q
    · rw [Array.getElem?_eq_none q] at h3; cases h3
  refine wpAny_bind (wpAny_setField hT hdT hsz ?_)
  have other : ∀ b, b ≠ T → (s.heap.update T (Obj.mapFields fun x => x.setIfInBounds 3 Value.none)).get? b = s.heap.get? b := fun b hb => Heap.get?_update_other _ _ (Ne.symm hb)
  have b1 : But (frs (env :: outer)) [e, T] s.heap (s.heap.update T (Obj.mapFields fun x => x.setIfInBounds 3 Value.none)) :=
    ⟨fun b o hb _ hg => by rw [other b (fun z => hb (by rw [z]; simp))]; exact hg, fun b o hb hg => ⟨o.slots, by rw [other b (fun z => hb (by rw [z]; simp))]; exact hg⟩⟩
  have ne : e ∉ frs (env :: outer) := not_frame hF he hd
  have nT' : T ∉ frs (env :: outer) := not_frame hF hT hdT
  have hF2 : (s.heap.update T (Obj.mapFields fun x => x.setIfInBounds 3 Value.none)).FunFrames base (env :: outer) := b1.frames (fun c hc z => by
    rcases List.mem_cons.mp z with rfl | z
    · exact ne hc
    · rw [List.mem_singleton.mp z] at hc; exact nT' hc) hF
  have hsz1 : 1 < vs.size := by
    rcases Nat.lt_or_ge 1 vs.size with q | q
    · exact q
    · rw [Array.getElem?_eq_none q] at h1; cases h1
  refine note_entry (s := { s with heap := s.heap.update T (Obj.mapFields fun x => x.setIfInBounds 3 Value.none) }) hA hF2 hf (by show Heap.get? _ e = _; rw [other e (Ne.symm nT)]; exact he) hd hsz1 ne _ _ fun h' T2 b2 n2 f2 => ?_
  have n2' : s.heap.get? T2 = none := by
    have n2 : (s.heap.update T (Obj.mapFields fun x => x.setIfInBounds 3 Value.none)).get? T2 = none := n2
    by_cases z : T2 = T
    · exfalso
      rw [z, Heap.get?_update_self _ hT (by
        obtain ⟨cls, dct, data, sl⟩ := oT
        simp only at hdT
        subst hdT
        rfl)] at n2
      cases n2
    · rw [other T2 z] at n2; exact n2
  rw [hc] at f2
  exact h h' T2 (b1.trans (b2.mono (fun _ x => x) (fun x hx => by rw [List.mem_singleton.mp hx]; simp))) n2' f2
end
end L2
set_option Elab.async false
set_option linter.all false
set_option maxRecDepth 100000
namespace L2
open PySem PySem.Spec PyProof.Rows
/-- how an exception of an own class lies behind a call -/
def CXe (P : Program) (w : World) : CXT := fun outer H s E e s' => ∃ (a T C : Addr) (H' : Hp), e = .ref a ∧ s'.os = s.os ∧ AllBare s'.gens ∧ Un (frs outer) [] H H' s.heap s'.heap ∧ HOk P w H' s'.heap ∧ FlyAt s'.heap a T (.ref C) Value.none ∧ s.heap.get? a = none ∧ s.heap.get? T = none ∧ H' a = none ∧ H' T = none ∧ E (.ref C) none H'
theorem hok_free {P : Program} {w : World} {H : Hp} {h : Heap} (x : HOk P w H h) {a : Addr} (e : h.get? a = none) : H a = none := by
  cases q : H a with
  | none => rfl
  | some u => obtain ⟨v, z⟩ := (x a u q).ex; rw [e] at z; cases z
/-- an exception that is made leaves the def -/
theorem leaves_made {P : Program} {w : World} {K : PySem.W.Frag} {mg : Str → Option Value} {base : Heap} {N : List Str} {qual : Str} {scope : Scope} {f : Addr} {cd : Value} {A : Around} {outer : List Env} {s : Shared} {H : Hp} {E : XK} {C : Addr} {args : List Value}
    {pins : List (Addr × Obj)} {σ : St} {H1 : Hp} {s1 : Shared} {h' : Heap} {a : Addr} (I : Inv (cxOf (CXe P w) P w K mg base N qual scope f cd A outer s H E) pins σ H1 s1) (hm : s1.heap.MadeExcOf h' a (.ref C) args) (hE : E (.ref C) none H1) :
    (cxOf (CXe P w) P w K mg base N qual scope f cd A outer s H E).xe (.ref a) { s1 with heap := h' } := by
  have I2 := I.kept (h' := h') (t' := s1.toks) hm.keeps
  obtain ⟨t, he, ht, _⟩ := hm.there
  have hA : (A.deeper (envOfC qual scope s.heap.objs.size f cd)).frames = some (envOfC qual scope s.heap.objs.size f cd :: outer) := I.ok.frames
  have hF : h'.FunFrames base (envOfC qual scope s.heap.objs.size f cd :: outer) := I2.stack
  have hne : a ∉ frs (envOfC qual scope s.heap.objs.size f cd :: outer) := not_frame hF he rfl
  have hB := I2.base
  have sa : s.heap.get? a = none := by
    cases q : s.heap.get? a with
    | none => rfl
    | some o =>
      obtain ⟨o', z⟩ := I.base.there a o q (fun z => nomatch z)
      rw [hm.new] at z; cases z
  have Ha : H1 a = none := hok_free I.hok hm.new
  show wpAny (model P w) (A.deeper (envOfC qual scope s.heap.objs.size f cd)) (leaving (envOfC qual scope s.heap.objs.size f cd) (.ref a)) (fun _ s'' => CXe P w outer H s E (.ref a) s'') (fun e' s'' => CXe P w outer H s E e' s'') { s1 with heap := h' }
  unfold leaving
  refine wpAny_bind (note_first (s := { s1 with heap := h' }) hA hF (L := s.heap.objs.size) rfl he rfl rfl hne fun h2 T b2 nT f2 => ?_)
  refine fly_none (s := { s1 with heap := h2 }) f2 fun h3 b3 f3 => ?_
  have nT : h'.get? T = none := nT
  have HT : H1 T = none := hok_free I2.hok nT
  have sT : s.heap.get? T = none := by
    cases q : s.heap.get? T with
    | none => rfl
    | some o =>
      obtain ⟨o', z⟩ := hB.there T o q (fun z => nomatch z)
      have z : h'.get? T = some o' := z
      rw [nT] at z; cases z
  have bb : But (frs (envOfC qual scope s.heap.objs.size f cd :: outer)) [a, T] h' h3 :=
    (b2.mono (fun _ x => x) (fun x hx => by rw [List.mem_singleton.mp hx]; simp)).trans (b3.mono (fun _ x => nomatch x) (fun x hx => by rw [List.mem_singleton.mp hx]; simp))
  have nin : ∀ b o, s.heap.get? b = some o → b ∉ [a, T] := fun b o e z => by
    rcases List.mem_cons.mp z with rfl | z
    · rw [sa] at e; cases e
    · rw [List.mem_singleton.mp z, sT] at e; cases e
  have frsS : frs (envOfC qual scope s.heap.objs.size f cd :: outer) = s.heap.objs.size :: frs outer := rfl
  refine ⟨a, T, C, H1, rfl, I.os, I.bare, ⟨fun b o e n n2 _ => ?_, fun b o e n n2 _ => ?_, fun b o e n _ => hB.free b o e n (fun z => nomatch z), fun b o e _ => ?_, hB.tups, hB.frzs, hB.tbls⟩, fun c u e => ?_, f3, sa, sT, Ha, HT, hE⟩
  · refine bb.keep b o (nin b o e) (fun z => ?_) (hB.keep b o e n n2 (fun z => nomatch z))
    rw [frsS] at z
    rcases List.mem_cons.mp z with z | z
    · exact absurd (Heap.lt_size e) (by rw [z]; exact Nat.lt_irrefl _)
    · exact n2 z
  · obtain ⟨sl, q⟩ := hB.slot b o e n n2 (fun z => nomatch z)
    obtain ⟨sl', q'⟩ := bb.slot b _ (nin b o e) q
    exact ⟨sl', q'⟩
  · obtain ⟨o', q⟩ := hB.there b o e (fun z => nomatch z)
    obtain ⟨sl, q'⟩ := bb.slot b o' (nin b o e) q
    exact ⟨_, q'⟩
  · refine (I2.hok c u e).stay (fun b v hb q => ?_) (fun _ q => q) fun _ _ q => q
    have tr : H1 b ≠ none := by
      rcases hb with rfl | hb
      · rw [e]; exact fun z => nomatch z
      · rw [hb]; exact fun z => nomatch z
    refine bb.keep b v (fun z => ?_) (fun z => tr (I.stkFree b z)) q
    rcases List.mem_cons.mp z with rfl | z
    · exact tr Ha
    · rw [List.mem_singleton.mp z] at tr; exact tr HT
end L2
set_option Elab.async false
set_option linter.all false
set_option maxRecDepth 100000
namespace L2
open PySem PySem.Spec PyProof.Rows
theorem sub_type_tuple : isSubtype (Value.type "type") (Value.type "tuple") = pure false := by rw [isSubtype_type]; kernel_rfl
theorem exc_match {M : Model} {A : Around} {E : Value → Shared → Prop} {nm q nm2 q2 : Str} {C N C2 N2 : Addr} {bs bm bs2 bm2 : List Value} {hdct hdct2 : Bool} {sn sn2 : List Str} {sub sub2 : List Value} {ab ab2 : Bool} {col col2 : Option Bool} {dd dd2 : Option Addr}
    {k0 k1 k2 k3 k5 j0 j1 j2 j3 j5 : Option Value} {newId newId2 : String} {h : Heap} {g : Array GenState} {d : Drawn} {t : Nat} {os : OsState} {e : Addr} {oe : Obj} {Q : Bool → Shared → Prop}
    (hC : h.get? C = some (excClassObj nm q C N bs bm hdct sn sub ab col dd k0 k1 k2 k3 k5 newId)) (hC2 : h.get? C2 = some (excClassObj nm2 q2 C2 N2 bs2 bm2 hdct2 sn2 sub2 ab2 col2 dd2 j0 j1 j2 j3 j5 newId2)) (he : h.get? e = some oe) (hc : oe.cls = .ref C)
    (hb : bm2.contains (Value.type "BaseException") = true) (hq : Q ((Value.ref C :: bm).contains (Value.ref C2)) ⟨h, g, d, t, os⟩) : wpAny M A (excMatches (.ref e) (.ref C2)) Q E ⟨h, g, d, t, os⟩ := by
  unfold excMatches
  refine wpAny_bind (wpAny_isInstance (T := "type") (b := false) ⟨_, hC2, rfl⟩ sub_type_tuple ?_)
  dsimp only
  refine wpAny_ite_split (fun z => absurd z Bool.false_ne_true) fun _ => ?_
  refine wpAny_bind (wpAny_pure ?_)
  refine wpAny_bind (wpAny_forIn_list _ (fun l _ s' => (l = [Value.ref C2] ∨ l = []) ∧ s' = ⟨h, g, d, t, os⟩) _ ?_ ?_ _ _ ⟨.inl rfl, rfl⟩)
  · rintro x rest b s' ⟨hl, rfl⟩
    rcases hl with hl | hl
    · cases hl
      refine wpAny_bind ?_
      unfold isExcClass
      refine wpAny_bind (ks_wpAny_isType_cls hC2 rfl ?_)
      rw [if_pos rfl]
      refine wpAny_isSubtype_exc hC2 ?_
      have hb' : (Value.ref C2 :: bm2).contains (Value.type "BaseException") = true := by
        rw [List.contains_cons, hb, Bool.or_true]
      rw [hb']
      rw [if_neg (by decide)]
      exact wpAny_pure ⟨.inr rfl, rfl⟩
    · cases hl
  · rintro b s' ⟨_, rfl⟩
    refine wpAny_bind (wpAny_typeOf_ref he ?_)
    rw [hc]
    refine wpAny_bind (wpAny_forIn_list _ (fun l b s' => ((l = [Value.ref C2] ∧ b = (none, ())) ∨ (l = [] ∧ b = (none, ()) ∧ (Value.ref C :: bm).contains (Value.ref C2) = false)) ∧ s' = ⟨h, g, d, t, os⟩) _ ?_ ?_ _ _ ⟨.inl ⟨rfl, rfl⟩, rfl⟩)
    · rintro x rest b s' ⟨hl, rfl⟩
      rcases hl with ⟨hl, rfl⟩ | ⟨hl, _⟩
      · cases hl
        refine wpAny_bind (wpAny_isSubtype_exc hC ?_)
        cases hv : (Value.ref C :: bm).contains (Value.ref C2) with
        | true =>
          rw [if_pos rfl]
          rw [hv] at hq
          exact wpAny_pure (wpAny_pure hq)
        | false =>
          rw [if_neg Bool.false_ne_true]
          exact wpAny_pure ⟨.inr ⟨rfl, rfl, rfl⟩, rfl⟩
      · cases hl
    · rintro b s' ⟨hl, rfl⟩
      rcases hl with ⟨hl, _⟩ | ⟨_, rfl, hv⟩
      · cases hl
      · rw [hv] at hq
        exact wpAny_pure hq
end L2
set_option Elab.async false
set_option linter.all false
set_option maxRecDepth 100000
namespace L2
open PySem PySem.Spec PyProof.Rows
section
variable {X : Cx} {pins : List (Addr × Obj)} {σ : St} {H : Hp} {s : Shared} {h' : Heap}
/-- a thing of nobody: made since the entry, not tracked, no frame, no cell, no pin -/
structure Loose (X : Cx) (pins : List (Addr × Obj)) (H : Hp) (b : Addr) : Prop where
  un : H b = none
  up : X.s_0.heap.get? b = none
  nl : b ≠ X.env.locals
  nc : ∀ x c, X.env.cells.lookup x = some c → c ≠ b
  np : ∀ p ∈ X.pn ++ pins, p.1 ≠ b
theorem Inv.loose (I : Inv X pins σ H s) {b : Addr} (hx : b ∉ X.ex) (e : s.heap.get? b = none) : Loose X pins H b := by
  refine ⟨hok_free I.hok e, ?_, ?_, ?_, ?_⟩
  · cases q : X.s_0.heap.get? b with
    | none => rfl
    | some o =>
      obtain ⟨o', z⟩ := I.base.there b o q (fun z => hx z)
      rw [e] at z; cases z
  · intro z
    obtain ⟨m, ⟨o, _, _, ho, _⟩, _⟩ := I.loc
    rw [← z, e] at ho; cases ho
  · intro x c hc z
    obtain ⟨v, o, ho, _⟩ := I.cell x c hc
    rw [z, e] at ho; cases ho
  · intro p hp z
    have := (I.pin p hp).1
    rw [z, e] at this; cases this
theorem Inv.but {ch : List Addr} (I : Inv X pins σ H s) (b : But (frs X.stack) ch s.heap h') (hl : ∀ c ∈ ch, Loose X pins H c) : Inv X pins σ H { s with heap := h' } := by
  have nch : ∀ c u, H c = some u → c ∉ ch := fun c u e z => by rw [(hl c z).un] at e; cases e
  have n0 : ∀ c o, X.s_0.heap.get? c = some o → c ∉ ch := fun c o e z => by rw [(hl c z).up] at e; cases e
  have ns : ∀ c o, X.s_0.heap.get? c = some o → c ∉ X.fs → c ∉ frs X.stack := fun c o e n z => by
    rcases List.mem_cons.mp (I.stkSub c z) with z | z
    · have h1 := Heap.lt_size e
      have h2 := I.ok.above
      rw [z] at h1
      exact absurd h1 (Nat.not_lt.mpr h2)
    · exact n z
  refine ⟨I.ok, I.os, I.bare, ⟨fun c o e n n1 n2 => b.keep c o (n0 c o e) (ns c o e n1) (I.base.keep c o e n n1 n2), fun c o e n n1 n2 => ?_, I.base.free, fun c o e n => ?_, I.base.tups, I.base.frzs, I.base.tbls⟩, ?_, fun x c e => ?_, I.free, I.freeC, fun p hp => ?_, fun c u e => ?_, I.len⟩
  · obtain ⟨sl, q⟩ := I.base.slot c o e n n1 n2
    obtain ⟨sl', q'⟩ := b.slot c _ (n0 c o e) q
    exact ⟨sl', q'⟩
  · obtain ⟨o', q⟩ := I.base.there c o e n
    obtain ⟨sl, q'⟩ := b.slot c o' (n0 c o e) q
    exact ⟨_, q'⟩
  · obtain ⟨m, ⟨o, es, ep, ho, r⟩, hv⟩ := I.loc
    obtain ⟨sl, q⟩ := b.slot _ o (fun z => (hl _ z).nl rfl) ho
    refine ⟨m, ⟨_, es, ep, q, r⟩, fun i x v h1 h2 h3 => ?_⟩
    obtain ⟨u, ru, lk⟩ := hv i x v h1 h2 h3
    refine ⟨u, ru, ?_⟩
    rcases lk with lk | ⟨lk, c, hc, o', ho', hd'⟩
    · exact .inl lk
    · obtain ⟨sl', q'⟩ := b.slot c o' (fun z => (hl c z).nc x c hc rfl) ho'
      exact .inr ⟨lk, c, hc, _, q', hd'⟩
  · obtain ⟨v, o', ho', hd'⟩ := I.cell x c e
    obtain ⟨sl', q'⟩ := b.slot c o' (fun z => (hl c z).nc x c e rfl) ho'
    exact ⟨v, _, q', hd'⟩
  · obtain ⟨q1, q2, q3, q4, q5⟩ := I.pin p hp
    refine ⟨b.keep p.1 p.2 (fun z => (hl _ z).np p hp rfl) (fun z => ?_) q1, q2, q3, q4, q5⟩
    rcases List.mem_cons.mp (I.stkSub _ z) with z | z
    · exact q3 z
    · exact q4 z
  · refine (I.hok c u e).stay (fun d v hd q => ?_) (fun _ q => q) fun _ _ q => q
    have tr : ∃ w, H d = some w := by
      rcases hd with rfl | hd
      · exact ⟨_, e⟩
      · exact ⟨_, hd⟩
    obtain ⟨w', hw⟩ := tr
    exact b.keep d v (nch d _ hw) (fun z => by rw [I.stkFree d z] at hw; cases hw) q
/-- an exception of an own class -/
def ExcO (C a : Addr) : Heap → Prop := fun h => ∃ o, h.get? a = some o ∧ o.cls = .ref C
theorem Inv.adopt {C a : Addr} (I : Inv X pins σ H s) (l : Loose X pins H a) (ha : ExcO C a s.heap) : Inv X pins σ (upd H a (.ext (ExcO C a))) s := by
  have ns0 : ∀ b o, X.s_0.heap.get? b = some o → b ≠ a := fun b o e z => by
    rw [z, l.up] at e; cases e
  have nH : ∀ b u, H b = some u → b ≠ a := fun b u e z => by rw [z, l.un] at e; cases e
  refine ⟨I.ok, I.os, I.bare, ⟨I.base.keep, I.base.slot, fun b o e n hx => by rw [upd_ne (ns0 b o e)]; exact I.base.free b o e n hx, I.base.there, fun b xs e => by
      have := I.base.tups b xs e
      rw [upd_ne (nH b _ this)]; exact this, fun b o u e => by
      have := I.base.frzs b o u e
      rw [upd_ne (nH b _ this)]; exact this, fun b ps e => by
      obtain ⟨more, q⟩ := I.base.tbls b ps e
      exact ⟨more, by rw [upd_ne (nH b _ q)]; exact q⟩⟩, I.loc, I.cell, by rw [upd_ne (Ne.symm l.nl)]; exact I.free, fun x c e => by rw [upd_ne (l.nc x c e)]; exact I.freeC x c e, fun p hp => ?_, fun b u e => ?_, I.len⟩
  · obtain ⟨q1, q2, q3⟩ := I.pin p hp
    exact ⟨q1, by rw [upd_ne (l.np p hp)]; exact q2, q3⟩
  · by_cases hb : b = a
    · subst hb
      rw [upd_same] at e
      cases e
      exact ⟨ha, let ⟨o, q, _⟩ := ha; ⟨_, q⟩, fun h1 h2 ⟨o, q, r⟩ k => ⟨o, k _ q, r⟩⟩
    · rw [upd_ne hb] at e
      exact (I.hok b u e).stay (fun _ _ _ q => q) (fun c q => by rw [upd_ne (nH c _ q)]; exact q) fun c xs q => by rw [upd_ne (nH c _ q)]; exact q
end
end L2
set_option Elab.async false
set_option linter.all false
set_option maxRecDepth 100000
namespace L2
open PySem PySem.Spec PyProof.Rows
/-- raise C(e), C an own class under a builtin exception -/
def tRaise (t : TA) (R : Hp → Prop) : TS := fun _ σ H => t σ H fun vs H1 => vs.length ≤ sizeLine ∧ R H1
theorem ps_raise {X : Cx} {x : Str} {C : Addr} {e1 : Expr} {t : TA} {np cpos pos : Pos} {bmB bmN : List Value} {B Bn newId nid initId inN : String} {R : Hp → Prop} (FN : ExcBaseFacts Bn newId inN bmN) (hBn : bmB.contains (Value.type Bn) = true) (FB : ExcBaseFacts B nid initId bmB) (hc : X.calm = true) (O : OwnCls x C bmB newId X.mg X.base) (hg : Gl X x) (ha : PA X [e1] t)
    (hx : ∀ (pins : List (Addr × Obj)) (s : Shared) (σ : St) (H : Hp) (h' : Heap) (a : Addr) (args : List Value), Inv X pins σ H s → s.heap.MadeExcOf h' a (.ref C) args → R H → X.xe (.ref a) { s with heap := h' })
    (hs : starEach [e1] X.env = [(false, eval e1 X.env)] := by rfl) (hdb : (x == ("__debug__" : Str)) = false := by decide) : PS X (.Raise (some (.Call (.Name x np) [e1] [] cpos)) none pos) (tRaise t R) := by
  intro pins s σ H D I h
  obtain ⟨bm, N, nm, q, bs, hdct, sn, sub, ab, col, dd, k0, k1, k2, k3, k5, mN, hobj, hns, hinit, htail⟩ := O.obj
  refine wpAny_Raise_call_subU (nm := nm) (q := q) (N := N) (bs := bs) (hdct := hdct) (sn := sn) (sub := sub) (ab := ab) (col := col) (dd := dd) (k0 := k0) (k1 := k1) (k2 := k2) (k3 := k3) (k5 := k5) FN hBn FB (htail.hasType FB.hasBase) (I.ok.hd hc) (by rw [hs]; rfl) hinit (ld_glob I hg O.bound ⟨rfl, ?_⟩ hdb)
  have pa := ha cpos pins s σ H _ I h
  rw [hs] at pa ⊢
  refine Calls.evalArgs_plain (thn pa fun us s1 ⟨vs, H1, I1, r1, hz, q1⟩ => ?_)
  exact ⟨rfl, by rw [← r1.length]; exact hz, I1.bk _ _ hobj, hns.keeps I1.bk, htail.keeps I1.bk, fun h' e hm => hx pins s1 σ H1 h' e us I1 hm q1⟩
section
variable {P : Program} {w : World} {K : PySem.W.Frag} {mg : Str → Option Value} {base : Heap}
end
theorem PS.nox {X : Cx} {st : Stmt} {t : TS} (h : PS X.nox st t) : PS X st t := fun pins s σ H D I hw =>
  wpAny_mono (h pins s σ H D (I.wish _) hw) (fun _ _ q => q.unwish) fun _ _ z => False.elim z
/-- the same context, within an except suite -/
abbrev Cx.inExc (X : Cx) (e : Value) (E : Value → Shared → Prop) : Cx := { X with A := X.A.mark (some e), calm := false, xe := E }
theorem Inv.inExc {X : Cx} {pins : List (Addr × Obj)} {σ : St} {H : Hp} {s : Shared} (I : Inv X pins σ H s) (e : Value) (E : Value → Shared → Prop) : Inv (X.inExc e E) pins σ H s :=
  ⟨⟨I.ok.mod, I.ok.kind, I.ok.glob, I.ok.blt, I.ok.above, I.ok.inj, I.ok.has, I.ok.cab, (fun z => nomatch z), I.ok.frames, I.ok.stk, I.ok.exf, I.ok.bs, I.ok.bsz, I.ok.noex, I.ok.exfs, I.ok.funs, I.ok.frf⟩, I.os, I.bare, I.base, I.loc, I.cell, I.free, I.freeC, I.pin, I.hok, I.len⟩
theorem Inv.outExc {X : Cx} {pins : List (Addr × Obj)} {σ : St} {H : Hp} {s : Shared} {e : Value} {E : Value → Shared → Prop} (ok : X.Ok) (I : Inv (X.inExc e E) pins σ H s) : Inv X pins σ H s :=
  ⟨ok, I.os, I.bare, I.base, I.loc, I.cell, I.free, I.freeC, I.pin, I.hok, I.len⟩
end L2
set_option Elab.async false
set_option linter.all false
set_option maxRecDepth 100000
namespace L2
open PySem PySem.Spec PyProof.Rows
/-- the name of an except clause goes behind its suite -/
theorem name_goes2 {X : Cx} {pins : List (Addr × Obj)} {σ : St} {H : Hp} {s : Shared} {M : Model} {A : Around} {E : Value → Shared → Prop} {i : Nat} {n : Str} {pos : Pos} {Q : Unit → Shared → Prop} (I : Inv X pins σ H s) (hN : X.N.Nodup) (hi : X.N[i]? = some n) (hx : X.env.scope.names.lookup n = some .local)
    (h : ∀ s', Inv X pins (σ.set i none) H s' → Q () s') : wpAny M A (do bindName X.env n Value.none; unbindBehindTheSuite X.env n pos) Q E s := by
  obtain ⟨m, hn, hl⟩ := id I.loc
  have hcls : (X.env.scope.kind == .class || (X.env.scope.kind == .module && X.env.locals != X.env.globals)) = false := by rw [I.ok.kind]; rfl
  obtain ⟨oL, _, _, hoL, _⟩ := id hn
  refine wpAny_nameGoes_keeps hx hn hcls fun h' v hn' hs => ?_
  have nb : ∀ b o, X.s_0.heap.get? b = some o → b ≠ X.env.locals := fun b o e => Nat.ne_of_lt (Nat.lt_of_lt_of_le (Heap.lt_size e) I.ok.above)
  refine h _ ⟨I.ok, I.os, I.bare, ⟨fun b o e n hb hx => (hs.2 b (nb b o e)).trans (I.base.keep b o e n hb hx), fun b o e n hb hx => ?_, I.base.free, fun b o e hx => ?_, I.base.tups, I.base.frzs, I.base.tbls⟩, ⟨_, hn', fun j y v' e1 e2 e3 => ?_⟩, fun y c e => ?_, I.free, I.freeC, fun p hp => ?_, fun b u e => ?_, by rw [List.length_set]; exact I.len⟩
  · obtain ⟨sl, e1⟩ := I.base.slot b o e n hb hx
    exact ⟨sl, (hs.2 b (nb b o e)).trans e1⟩
  · obtain ⟨o', e1⟩ := I.base.there b o e hx
    exact ⟨o', (hs.2 b (nb b o e)).trans e1⟩
  · have hj : j ≠ i := fun z => by
      rw [z, List.getElem?_set] at e2
      rw [if_pos rfl] at e2
      split at e2 <;> cases e2
    rw [List.getElem?_set_ne (Ne.symm hj)] at e2
    have hy : y ≠ n := fun z => by
      subst z
      exact hj ((List.getElem?_inj (List.getElem?_eq_some_iff.mp e1).1 hN).mp (e1.trans hi.symm))
    obtain ⟨u, ru, lk⟩ := hl j y v' e1 e2 e3
    refine ⟨u, ru, ?_⟩
    rcases lk with ⟨k1, k2⟩ | ⟨k1, c, hc, o', ho', hd'⟩
    · exact .inl ⟨k1, by show (if y = n then v else m y) = some u; rw [if_neg hy]; exact k2⟩
    · exact .inr ⟨k1, c, hc, o', (hs.2 c (I.cne y c hc)).trans ho', hd'⟩
  · obtain ⟨v, o', ho', hd'⟩ := I.cell y c e
    exact ⟨v, o', (hs.2 c (I.cne y c e)).trans ho', hd'⟩
  · obtain ⟨q1, q2, q3, q4⟩ := I.pin p hp
    exact ⟨(hs.2 _ q3).trans q1, q2, q3, q4⟩
  · refine (I.hok b u e).stay (fun c w' hc q => (hs.2 c ?_).trans q) (fun _ q => q) fun _ _ q => q
    rintro rfl
    rcases hc with rfl | hc
    · rw [I.free] at e; cases e
    · rw [I.free] at hc; cases hc
/-- what an exception's class must be to be caught by C2 -/
def Under (base : Heap) (C C2 : Addr) : Prop := ∃ bm N nm q bs hdct sn sub ab col dd k0 k1 k2 k3 k5 newId, base.get? C = some (excClassObj nm q C N bs bm hdct sn sub ab col dd k0 k1 k2 k3 k5 newId) ∧ (Value.ref C :: bm).contains (Value.ref C2) = true
/-- try: f(..) except C2 as n: v = n -/
def tTryC (base : Heap) (sp : Sp) (t : TA) (C2 : Addr) (iv ie : Nat) : TS := fun D σ H => t σ H fun vs H1 => sp vs H1 (fun _ H' => D.nx σ H') (fun cls _ H' => ∃ C, cls = .ref C ∧ Under base C C2 ∧ ∀ a, H' a = none → D.nx (((σ.set ie (some (.ref a))).set iv (some (.ref a))).set ie none) (upd H' a (.ext (ExcO C a))))
end L2
set_option Elab.async false
set_option linter.all false
set_option maxRecDepth 100000
set_option maxHeartbeats 4000000
namespace L2
open PySem PySem.Spec PyProof.Rows
def tTryM (base : Heap) (CI : Addr) (m : Str) (sp : Sp) (ta : TE) (t : TA) (C2 : Addr) (iv ie : Nat) : TS := fun D σ H => ta σ H fun x H0 => ∃ a dx fs, x = .ref a ∧ H0 a = some (.ins CI dx fs) ∧ fs.lookup m = none ∧ t σ H0 fun vs H1 => sp (x :: vs) H1 (fun _ H' => D.nx σ H') (fun cls _ H' => ∃ C, cls = .ref C ∧ Under base C C2 ∧ ∀ a, H' a = none → D.nx (((σ.set ie (some (.ref a))).set iv (some (.ref a))).set ie none) (upd H' a (.ext (ExcO C a))))
end L2
set_option Elab.async false
set_option linter.all false
set_option maxRecDepth 100000
set_option maxHeartbeats 4000000
namespace L2
open PySem PySem.Spec PyProof.Rows
abbrev TSx := Ends → (Addr → Hp → Prop) → St → Hp → Prop
/-- an exception of the class at C flies here -/
def Fly (X : Cx) (pins : List (Addr × Obj)) (σ : St) (R : Addr → Hp → Prop) (e : Value) (s' : Shared) : Prop := ∃ (a T C : Addr) (H' : Hp), e = .ref a ∧ Inv X pins σ H' s' ∧ FlyAt s'.heap a T (.ref C) Value.none ∧ Loose X pins H' a ∧ Loose X pins H' T ∧ R C H'
def PSx (X : Cx) (st : Stmt) (t : TSx) : Prop := ∀ (pins : List (Addr × Obj)) (s : Shared) (σ : St) (H : Hp) (D : Ends) (R : Addr → Hp → Prop), Inv X pins σ H s → t D R σ H → wpAny (model X.prog X.w) X.A (exec st X.env) (SP X pins D) (Fly X pins σ R) s
def PSxs (X : Cx) (st : List Stmt) (t : TSx) : Prop := ∀ (pins : List (Addr × Obj)) (s : Shared) (σ : St) (H : Hp) (D : Ends) (R : Addr → Hp → Prop), Inv X pins σ H s → t D R σ H → wpAny (model X.prog X.w) X.A (execs st X.env) (SP X pins D) (Fly X pins σ R) s
/-- an exception of a callee flies here -/
theorem fly_call {X : Cx} {pins : List (Addr × Obj)} {σ : St} {H1 : Hp} {s1 : Shared} {E : XK} {R : Addr → Hp → Prop} (hex : X.ex = []) (J0 : Inv X pins σ H1 s1) {e : Value} {s' : Shared} (hq : CXe X.prog X.w X.stack H1 s1 (fun cls _ H' => ∃ C, cls = .ref C ∧ R C H') e s') : Fly X pins σ R e s' := by
  obtain ⟨a, T, C, H', rfl, os, bare, un, hok, fl, sa, sT, Ha, HT, C', hC', hq⟩ := hq
  cases hC'
  have nex : ∀ b : Addr, b ∉ X.ex := fun b z => by rw [hex] at z; cases z
  have J1 : Inv X pins σ H' s' := J0.call' os un hok bare (ch := []) (fun b z => nomatch z)
  exact ⟨a, T, C, H', rfl, J1, fl, ⟨Ha, (J0.loose (nex a) sa).up, (J0.loose (nex a) sa).nl, (J0.loose (nex a) sa).nc, (J0.loose (nex a) sa).np⟩, ⟨HT, (J0.loose (nex T) sT).up, (J0.loose (nex T) sT).nl, (J0.loose (nex T) sT).nc, (J0.loose (nex T) sT).np⟩, hq⟩
def txCall (sp : Sp) (t : TA) : TSx := fun D R σ H => t σ H fun vs H1 => sp vs H1 (fun _ H' => D.nx σ H') (fun cls _ H' => ∃ C, cls = .ref C ∧ R C H')
def txNext (t : TSx) : TSx := t
theorem psx_one {X : Cx} {st : Stmt} {t : TSx} (h : PSx X st t) : PSxs X [st] t := fun pins s σ H D R I ht => by
  refine wpAny_execs_cons (wpAny_mono (h pins s σ H D R I ht) (fun f s' hf => ?_) fun _ _ z => z)
  cases f with
  | next => exact wpAny_execs_nil hf
  | brk => exact hf
  | cont => exact hf
  | ret u => exact hf
def txIf (c : TT) (t u : TSx) : TSx := fun D R σ H => c σ H fun b H1 => if b = true then t D R σ H1 else u D R σ H1
/-- try: .. except C2 as n: v = n -/
def tTry (base : Heap) (t : TSx) (C2 : Addr) (iv ie : Nat) : TS := fun D σ H => t D (fun C H' => Under base C C2 ∧ ∀ a, H' a = none → D.nx (((σ.set ie (some (.ref a))).set iv (some (.ref a))).set ie none) (upd H' a (.ext (ExcO C a)))) σ H
end L2
set_option Elab.async false
set_option linter.all false
set_option maxRecDepth 100000
namespace L2
open PySem PySem.Spec PyProof.Rows
open Sem (wp)
section
variable {prog : Program} {w : World} {A : Around} {E : Value → Shared → Prop} {h : Heap} {g : Array GenState} {d : Drawn} {t : Nat} {os : OsState} {a C : Addr} {o : Obj}
/-- what an own exception class has of its base's lookups -/
structure LkO (M : Model) (h : Heap) (C : Addr) : Prop where
  ga : W.Looks M h (typeLookup (.ref C) "__getattribute__") (some (.builtin "BaseException.__getattribute__"))
  gt : W.Looks M h (typeLookup (.ref C) "__getattr__") none
  cl : W.Looks M h (typeLookup (.ref C) "__class__") (some (.builtin "object.__class__"))
  sb : W.Looks M h (isSubtype (.ref C) (.type "object")) true
theorem class_get_O {R : Result → Shared → Prop} (at_ : h.get? a = some o) (cl_ : o.cls = .ref C) (lk : LkO (model prog w) h C) (wish : R (.ok (.ret (.ref C))) ⟨h, g, d, t, os⟩) :
    codeAny (model prog w) A (.call (.builtin "getset_descriptor.__get__") ⟨[.builtin "object.__class__", .ref a, .ref C], []⟩) R ⟨h, g, d, t, os⟩ := by
  have ty5 : (⟨h, g, d, t, os⟩ : Shared).TypeIs (.builtin "object.__class__") "getset_descriptor" := F.typeOf_object_class
  obtain ⟨cls, dct, data, sl⟩ := o
  simp only at cl_
  subst cl_
  refine codeAny_call_builtin F.slot_gs_get.plain F.entry_gs_get (F.slot_gs_get.check _ _ _ _ _ _ _ _ ty5 (F.args_gs_get _ _ _) ?_)
  (repeat (any_goals (first | assumption | wp_step)))
  rw [F.owner_object_class]
  refine lk.sb _ _ _ _ (fun _ _ q => q) ?_
  (repeat (any_goals (first | assumption | wp_step)))
  refine ⟨Code.quiet_builtin _ (by decide +kernel), codeAny_builtin F.entry_object_class ?_⟩
  (repeat (any_goals (first | assumption | wp_step)))
theorem class_entry_O {tok_ : Tok} {Q : Fin → Shared → Prop} (at_ : h.get? a = some o) (cl_ : o.cls = .ref C) (lk : LkO (model prog w) h C) (wish : Q (.done (.ret (.ref C))) ⟨h, g, d, t, os⟩) :
    wpAny (model prog w) A (Builtin.«object.__getattribute__» ⟨[.ref a, .str "__class__" tok_], []⟩) Q E ⟨h, g, d, t, os⟩ := by
  have ty5 : (⟨h, g, d, t, os⟩ : Shared).TypeIs (.builtin "object.__class__") "getset_descriptor" := F.typeOf_object_class
  have g5 := F.typeOf_object_class
  have g6 := F.slot_gs_get.lookup
  have g7 := F.slot_gs_set.lookup
  obtain ⟨cls, dct, data, sl⟩ := o
  simp only at cl_
  subst cl_
  (repeat (any_goals (first | assumption | wp_step)))
  refine lk.cl _ _ _ _ (fun _ _ q => q) ?_
  (repeat (any_goals (first | assumption | wp_step)))
  refine class_get_O at_ rfl lk ?_
  (repeat (any_goals (first | assumption | wp_step)))
theorem class_call_O {tok_ : Tok} {R : Result → Shared → Prop} {nm q : Str} {N : Addr} {bs bm bmB : List Value} {hdct : Bool} {sn : List Str} {sub : List Value} {ab : Bool} {col : Option Bool} {dd : Option Addr} {k0 k1 k2 k3 k5 : Option Value} {B newId : String} (XB : ExcAttrBase B bmB)
    (hC : h.get? C = some (excClassObj nm q C N bs bm hdct sn sub ab col dd k0 k1 k2 k3 k5 newId)) (tl : OwnTailQ h bmB bm) (at_ : h.get? a = some o) (cl_ : o.cls = .ref C) (lk : LkO (model prog w) h C) (wish : R (.ok (.ret (.ref C))) ⟨h, g, d, t, os⟩) :
    codeAny (model prog w) A (.call (.builtin "BaseException.__getattribute__") ⟨[.ref a, .str "__class__" tok_], []⟩) R ⟨h, g, d, t, os⟩ :=
  codeAny_call_builtin F.excAttr_ValueError.ga.plain F.entry_bexc_ga (wpAny_check_ga_own XB hC tl at_ cl_ (class_entry_O at_ cl_ lk wish))
theorem class_by_O {tok_ : Tok} {Q : Value → Shared → Prop} {nm q : Str} {N : Addr} {bs bm bmB : List Value} {hdct : Bool} {sn : List Str} {sub : List Value} {ab : Bool} {col : Option Bool} {dd : Option Addr} {k0 k1 k2 k3 k5 : Option Value} {B newId : String} (XB : ExcAttrBase B bmB)
    (hC : h.get? C = some (excClassObj nm q C N bs bm hdct sn sub ab col dd k0 k1 k2 k3 k5 newId)) (tl : OwnTailQ h bmB bm) (at_ : h.get? a = some o) (cl_ : o.cls = .ref C) (lk : LkO (model prog w) h C) (wish : Q (.ref C) ⟨h, g, d, t, os⟩) : wpAny (model prog w) A (getAttrBy (.ref a) (.str "__class__" tok_) false) Q E ⟨h, g, d, t, os⟩ := by
  have g3 := F.excAttr_ValueError.ga.bind (.ref a)
  unfold getAttrBy
  refine wpAny_holding (wpAny_bind (wpAny_typeOf_ref at_ ?_))
  rw [cl_]
  refine wpAny_bind (lk.ga _ _ _ _ (fun _ _ q => q) ?_)
  dsimp only
  rw [if_neg (by simp)]
  unfold getAttrByItsOwn hookBefore
  refine wpAny_bind ?_
  rw [if_pos (show onTheHeap (Value.ref C) = true from rfl)]
  refine lk.gt _ _ _ _ (fun _ _ q => q) ?_
  (repeat (any_goals (first | assumption | wp_step)))
  refine class_call_O XB hC tl at_ cl_ lk ?_
  (repeat (any_goals (first | assumption | wp_step)))
theorem class_attr_O {Q : Option Value → Shared → Prop} {nm q : Str} {N : Addr} {bs bm bmB : List Value} {hdct : Bool} {sn : List Str} {sub : List Value} {ab : Bool} {col : Option Bool} {dd : Option Addr} {k0 k1 k2 k3 k5 : Option Value} {B newId : String} (XB : ExcAttrBase B bmB)
    (hC : h.get? C = some (excClassObj nm q C N bs bm hdct sn sub ab col dd k0 k1 k2 k3 k5 newId)) (tl : OwnTailQ h bmB bm) (at_ : h.get? a = some o) (cl_ : o.cls = .ref C) (lk : LkO (model prog w) h C) (wish : Q (some (.ref C)) ⟨h, g, d, t + 1, os⟩) : wpAny (model prog w) A (getAttr? (.ref a) "__class__") Q E ⟨h, g, d, t, os⟩ := by
  unfold getAttr? getAttrBy?
  repeat (any_goals (first | assumption | with_reducible apply class_by_O XB hC tl at_ cl_ lk | wp_step))
end
end L2
set_option Elab.async false
set_option linter.all false
set_option maxRecDepth 100000
namespace L2
open PySem PySem.Spec PyProof.Rows
abbrev bmVE : List Value := [.type "ValueError", .type "Exception", .type "BaseException", .type "object"]
theorem attrVE : ExcAttrBase "ValueError" bmVE := ⟨F.excAttr_ValueError, F.excBase_ValueError.mroIs, by rw [typeLookup_type, builtinLookup_eq_fast]; kernel_rfl, by decide +kernel⟩
/-- the facts of an own exception class C under an own one L under ValueError -/
structure ExcK (K : W.Frag) (C : Addr) : Prop where
  obj : ∃ nm q N bs L hdct sn sub ab col dd k0 k1 k2 k3 k5 newId cL ddL cd slL, K.lookup C = some (excClassObj nm q C N bs (.ref L :: bmVE) hdct sn sub ab col dd k0 k1 k2 k3 k5 newId) ∧ K.lookup L = some ⟨cL, ddL, .cls cd, slL⟩ ∧ W.nsOkIn K cd.ns = true ∧ (∀ n ∈ quietNames, W.nsIn K cd.ns n = some none)
  ga : W.findIn K (.ref C) "__getattribute__" = some (some (.builtin "BaseException.__getattribute__"))
  gt : W.findIn K (.ref C) "__getattr__" = some none
  cl : W.findIn K (.ref C) "__class__" = some (some (.builtin "object.__class__"))
  sb : W.subIn K (.ref C) (.type "object") = some true
theorem ExcK.lk {K : W.Frag} {C : Addr} (x : ExcK K C) {M : Model} {h : Heap} (i : K.In h) : LkO M h C := ⟨W.looks_findIn i x.ga, W.looks_findIn i x.gt, W.looks_findIn i x.cl, W.looks_subIn i x.sb⟩
theorem kitx_exc {K : W.Frag} {a C : Addr} (x : ExcK K C) : W.KitX K (.ref a) (.ref C) (ExcO C a) := by
  obtain ⟨nm, q, N, bs, L, hdct, sn, sub, ab, col, dd, k0, k1, k2, k3, k5, newId, cL, ddL, cd, slL, lC, lL, ok, qn⟩ := x.obj
  refine ⟨fun M h i ⟨o, e, c⟩ A Q E s k q => wpAny_typeOf_ref (k _ _ e) (by rw [c]; exact q), fun M h i _ A Q E s k qq => ?_, fun h tp dd2 its n sl i e => ?_, fun {prog w A E Q s} i ⟨o, e, c⟩ hq => ?_⟩
  · obtain ⟨hh, g, d, t, os⟩ := s
    exact ks_wpAny_isType_cls (k _ _ (i _ _ lC)) rfl qq
  · rw [beq_eq_false_iff_ne]
    intro z
    injection z with z
    have := i _ _ lC
    rw [z, e] at this
    have y := congrArg Obj.cls (Option.some.inj this)
    injection y with y
    exact absurd y (by decide)
  · obtain ⟨hh, g, d, t, os⟩ := s
    have hns : hh.Ns cd.ns (hh.nsMap cd.ns) := Heap.Ns.of_isNs (W.isNs_of_in i ok)
    have i' : K.In hh := i
    have tl : OwnTailQ hh bmVE (.ref L :: bmVE) := .own (i' _ _ lL) hns (fun n hn => W.nsMap_none_of_in i' ok (qn n hn)) .base
    exact class_attr_O attrVE (i' _ _ lC) tl e c (x.lk i') hq
/-- isinstance of a caught one: one class, a tuple of classes -/
theorem cr_isiX {X : Cx} {K : W.Frag} (hK : X.K = K) : CallR X (.builtin "isinstance") (fun xs H Q => ∃ (a C : Addr) (c : V) (b : Bool), xs = [.ref a, c] ∧ H a = some (.ext (ExcO C a)) ∧ ExcK K C ∧ ((∃ T, c = .ty T ∧ W.kitOne K (.ref C) (.type T) = some b) ∨ (∃ D, c = .ref D ∧ W.kitOne K (.ref C) (.ref D) = some b)) ∧ Q (.bl b) H) := by
  subst hK
  intro pins s σ H xs us Q I r h
  obtain ⟨a, C, c, b, rfl, ha, xk, hc, q⟩ := h
  obtain ⟨u, w', rfl, r1, r2⟩ := vals2 r
  cases (show u = Value.ref a from r1)
  obtain ⟨hx, _⟩ := (show ObjOk X.prog X.w H s.heap a (.ext (ExcO C a)) from I.hok a _ ha)
  rcases hc with ⟨T, rfl, hc⟩ | ⟨D, rfl, hc⟩
  · cases (show w' = Value.type T from r2)
    exact W.kia_one (kitx_exc xk) I.kIn hx hc (fun z => nomatch z) fun tk => ⟨.bl b, H, I.tok _, rfl, q⟩
  · cases (show w' = Value.ref D from r2)
    exact W.kia_one (kitx_exc xk) I.kIn hx hc (fun z => nomatch z) fun tk => ⟨.bl b, H, I.tok _, rfl, q⟩
theorem cr_isiET {X : Cx} {K : W.Frag} (hK : X.K = K) : CallR X (.builtin "isinstance") (fun xs H Q => ∃ (a C tp : Addr) (ds : List Addr) (b : Bool), xs = [.ref a, .ref tp] ∧ H a = some (.ext (ExcO C a)) ∧ ExcK K C ∧ H tp = some (.tup (ds.map V.ref)) ∧ W.kitAny K (.ref C) (ds.map Value.ref) = some b ∧ Q (.bl b) H) := by
  subst hK
  intro pins s σ H xs us Q I r h
  obtain ⟨a, C, tp, ds, b, rfl, ha, xk, ht, hc, q⟩ := h
  obtain ⟨u, w', rfl, r1, r2⟩ := vals2 r
  cases (show u = Value.ref a from r1)
  cases (show w' = Value.ref tp from r2)
  obtain ⟨hx, _⟩ := (show ObjOk X.prog X.w H s.heap a (.ext (ExcO C a)) from I.hok a _ ha)
  obtain ⟨_, its, rv, ⟨cls, dd, data, sl⟩, h1, h2, n, h3⟩ := (show ObjOk X.prog X.w H s.heap tp (.tup (ds.map V.ref)) from I.hok tp _ ht)
  simp only at h2 h3
  subst h2 h3
  have ei : its = ds.map Value.ref := by
    have : ∀ (ds : List Addr) (its : List Value), Vals (ds.map V.ref) its → its = ds.map Value.ref := by
      intro ds
      induction ds with
      | nil => intro its h; cases h; rfl
      | cons d ds ih =>
        intro its h
        cases h with
        | cons r rr => cases r; rw [ih _ rr]; rfl
    exact this ds its rv
  subst ei
  exact W.kia_tup (kitx_exc xk) I.kIn hx h1 hc (fun z => nomatch z) fun tk => ⟨.bl b, H, I.tok _, rfl, q⟩
/-- an own class by its name -/
theorem pe_cls {X : Cx} {x : Str} {C : Addr} {pos : Pos} (hg : Gl X x) (hm : X.mg x = some (.ref C)) (hdb : (x == ("__debug__" : Str)) = false := by decide) : PE X (.Name x pos) (tC (.ref C)) := fun pins s σ H Q I h => ld_glob I hg hm ⟨.ref C, H, I, rfl, h⟩ hdb
end L2
set_option Elab.async false
set_option linter.all false
set_option maxRecDepth 100000
set_option maxHeartbeats 4000000
namespace L2
open PySem PySem.Spec PyProof.Rows
abbrev VEat (H : Hp) (x : V) : Prop := ∃ a, x = .ref a ∧ H a = some (.ext (ExcP "ValueError" a))
def spPlcA (K : PySem.W.Frag) : Sp := fun vs H Q _ => ∃ (x : V) (m : Int), vs = [x, .int m] ∧ ((∃ n, x = .int n ∧ Q (.bl (decide (0 ≤ n ∧ n < m))) H) ∨ (∃ b, x = .bl b ∧ Q (.bl false) H) ∨ (IsI K H x "int" false ∧ Q (.bl false) H) ∨ (VEat H x ∧ Q (.bl false) H))
def BadI (K : PySem.W.Frag) (H : Hp) (m : Int) (x : V) : Prop := (∃ n : Int, x = .int n ∧ ¬ (0 ≤ n ∧ n < m)) ∨ (∃ b, x = .bl b) ∨ (∀ H', Same H H' → IsI K H' x "int" false) ∨ VEat H x
theorem BadI.same {K : PySem.W.Frag} {H H' : Hp} {m : Int} {x : V} (b : BadI K H m x) (s : Same H H') : BadI K H' m x := by
  rcases b with h | h | h | ⟨a, h1, h2⟩
  · exact .inl h
  · exact .inr (.inl h)
  · exact .inr (.inr (.inl fun H2 s2 => h H2 (s.trans s2)))
  · exact .inr (.inr (.inr ⟨a, h1, s _ _ h2⟩))
def NotL (K : PySem.W.Frag) (H : Hp) (z : Str) (x : V) : Prop := (∃ y : Str, x = .str y ∧ y.length ≤ 4000 ∧ (rowB y && (fsts z.cps.toList 0 y.cps.toList).isSome) = false) ∨ (∀ H', Same H H' → IsI K H' x "str" false) ∨ VEat H x
theorem NotL.same {K : PySem.W.Frag} {H H' : Hp} {z : Str} {x : V} (b : NotL K H z x) (s : Same H H') : NotL K H' z x := by
  rcases b with h | h | ⟨a, h1, h2⟩
  · exact .inl h
  · exact .inr (.inl fun H2 s2 => h H2 (s.trans s2))
  · exact .inr (.inr ⟨a, h1, s _ _ h2⟩)
/-- left_at refuses -/
def spLeftB (K : PySem.W.Frag) (C : Addr) : Sp := fun vs H _ E => ∃ (z : Str) (x : V), vs = [.str z, x] ∧ z.length ≤ 200 ∧ BadI K H (mn z.cps.toList) x ∧ ∀ H', Same H H' → E (.ref C) none H'
/-- place_of, place_in_length refuse -/
def spPlaceB (K : PySem.W.Frag) (P C : Addr) : Sp := fun vs H _ E => ∃ (z : Str) (x : V), vs = [.str z, x] ∧ z.length ≤ 200 ∧ H P = some (.ext (TabP P)) ∧ NotL K H z x ∧ ∀ H', Same H H' → E (.ref C) none H'
/-- what is known of the classes of refusals, one by one -/
structure RefsJ (K : PySem.W.Frag) (mg : Str → Option Value) (C1 C2 C3 C4 C5 C6 : Addr) : Prop where
  m1 : mg "NoPlace" = some (.ref C1)
  m2 : mg "NoRow" = some (.ref C2)
  m3 : mg "NoLetters" = some (.ref C3)
  m4 : mg "NoLetter" = some (.ref C4)
  m5 : mg "NoText" = some (.ref C5)
  m6 : mg "NoCommand" = some (.ref C6)
  mV : mg "ValueError" = none
/-- of which of six classes an exception is -/
structure OfSix (K : PySem.W.Frag) (C C1 C2 C3 C4 C5 C6 : Addr) (b1 b2 b3 b4 b5 b6 : Bool) : Prop where
  xk : ExcK K C
  o1 : PySem.W.kitOne K (.ref C) (.ref C1) = some b1
  o2 : PySem.W.kitOne K (.ref C) (.ref C2) = some b2
  o3 : PySem.W.kitOne K (.ref C) (.ref C3) = some b3
  o4 : PySem.W.kitOne K (.ref C) (.ref C4) = some b4
  o5 : PySem.W.kitOne K (.ref C) (.ref C5) = some b5
  o6 : PySem.W.kitOne K (.ref C) (.ref C6) = some b6
  val : PySem.W.kitOne K (.ref C) (.type "ValueError") = some true
def spJust (C1 C2 : Addr) : Sp := fun vs H Q _ => ∃ (a : Addr) (n : Int), vs = [.ref a, .int n] ∧ ((n = 0 ∧ H a = some (.ext (ExcO C1 a))) ∨ (n = 1 ∧ H a = some (.ext (ExcO C2 a)))) ∧ ∀ H', Same H H' → Q (.bl true) H'
end L2
set_option Elab.async false
set_option linter.all false
set_option maxRecDepth 100000
set_option maxHeartbeats 4000000
namespace L2
open PySem PySem.Spec PyProof.Rows
/-- a def that raises, its code object known -/
theorem Fun.okXC {P : Program} {w : World} {K : PySem.W.Frag} {mg : Str → Option Value} {base : Heap} {CX : CXT} {x qual : Str} {st : Stmt} {f c : Addr} {fd : FuncData} {N ps : List Str} {k : Nat} {sp : Sp} (F : Fun K x qual st f fd) (hc : fd.code = .ref c) (S : FnScope N ps (defScope st)) (len : ∀ vs H Q E, sp vs H Q E → vs.length = ps.length)
    (hbody : ∀ (A : Around) (outer : List Env) (s : Shared) (H : Hp) (vs : List V) (Q : VK) (E : XK), Room k (A.deeper (envOfC qual (defScope st) s.heap.objs.size f (.ref c))) → sp vs H Q E →
      ∃ t, PSs (cxOf CX P w K mg base N qual (defScope st) f (.ref c) A outer s H E) (defBody st) t ∧ t { nx := fun _ H' => Q .non H', rt := Q } (start N vs) H) : FnOk P w K mg base CX (k + 1) f fd ps sp := by
  obtain ⟨oc, od, kV, doc, pm, an, cdv, ct, osl, rfl, lk, hcd⟩ := F.ex
  have e : cdv = .ref c := hc
  subst e
  exact fn_of lk hcd S len fun A outer s H vs Q E hr hsp => hbody A outer s H vs Q E hr hsp
/-- v = f(..) in a try -/
def txSet (sp : Sp) (t : TA) (i : Nat) : TSx := fun D R σ H => t σ H fun vs H1 => sp vs H1 (fun u H' => D.nx (σ.set i (some u)) H') (fun cls _ H' => ∃ C, cls = .ref C ∧ R C H')
theorem psx_set {X : Cx} {k i : Nat} {x v : Str} {f : Addr} {fd : FuncData} {ps : List Str} {sp : Sp} {e1 : Expr} {es : List Expr} {t : TA} {p vp pos pos2 : Pos}
    (F : FnOk X.prog X.w X.K X.mg X.base (CXe X.prog X.w) k f fd ps sp) (hr : Room k X.A) (hg : Gl X x) (hm : X.mg x = some (.ref f)) (hk : PySem.W.keepIn X.K (.ref f) = true) (hb : Binds X.K fd ps []) (hex : X.ex = [])
    (hN : X.N.Nodup) (hi : X.N[i]? = some v) (hv : X.env.scope.names.lookup v = some .local)
    (ha : ∀ E, PA (X.wish E) (e1 :: es) t)
    (hdb : (x == ("__debug__" : Str)) = false := by decide) (he : starEach (e1 :: es) X.env = (false, eval e1 X.env) :: starEach es X.env := by rfl) (hpl : (backTo pos (starEach es X.env)).any (·.1) = false := by rfl)
    (hsw : swapsWith (.Call (.Name x p) (e1 :: es) [] pos) (some (.Name v vp)) pos2.line X.env = pure false := by rfl) :
    PSx X (.Assign [.Name v vp] (.Call (.Name x p) (e1 :: es) [] pos) pos2) (txSet sp t i) := by
  intro pins s σ H D R I h
  have I1 := I.wish (Fly X pins σ R)
  refine wpAny_Assign_Name ?_ hsw
  refine wpAny_Call_Name_kw (ld_glob I hg hm ?_ hdb)
  refine PySem.W.callWith_K (h₀ := X.base) I.ok.mod.kin hk (thn (ha (Fly X pins σ R) pos pins s σ H _ I1 h) fun us s1 ⟨vs, H1, I2, r, q⟩ => ⟨I2.kIn, ?_⟩) he hpl
  have J0 := I2.unwish
  have hl : us.length = ps.length := by rw [← r.length]; exact F.len _ _ _ _ q
  refine wpAny_call (codeAny_mono (F.run X.A X.stack s1 H1 ⟨us, []⟩ us vs _ _ hr J0.env0 (by have := hb s1 us J0.kIn (by rw [List.append_nil]; exact hl); rwa [List.append_nil] at this) r q) fun r' s' hq => ?_)
  cases r' with
  | ok fl =>
    cases fl with
    | ret u =>
      obtain ⟨v', H', I', rv, q'⟩ := J0.after hq
      exact store_ok (X := X.wish (Fly X pins σ R)) (I'.wish _) hN hi (.inl hv) rv (fun s2 I2 => ⟨_, H', I2.unwish, q'⟩) (.inr hv)
    | next => exact False.elim hq
    | brk => exact False.elim hq
    | cont => exact False.elim hq
  | error e => exact fly_call (E := fun _ _ _ => True) hex J0 hq
/-- try: .. except C2 as n: (any suite that goes on) -/
def tTryH (base : Heap) (t : TSx) (C2 : Addr) (ie : Nat) (th : TS) : TS := fun D σ H => t D (fun C H' => Under base C C2 ∧ ∀ a, H' a = none → th { nx := fun σ3 H3 => D.nx (σ3.set ie none) H3, rt := fun _ _ => False } (σ.set ie (some (.ref a))) (upd H' a (.ext (ExcO C a)))) σ H
theorem ps_tryH {X : Cx} {cx n : Str} {C2 : Addr} {body hs : List Stmt} {h0 : Stmt} {t : TSx} {th : TS} {cp hpos tpos : Pos} {ie : Nat} {bmB : List Value} {newId2 : String}
    (B : PSxs X body t) (hex : X.ex = []) (hst : X.stack = X.env :: X.outer) (hfr : X.env.frame = some X.env.locals)
    (O2 : OwnCls cx C2 bmB newId2 X.mg X.base) (hbB : bmB.contains (Value.type "BaseException") = true) (hg2 : Gl X cx) (hN : X.N.Nodup) (hie : X.N[ie]? = some n) (hn : X.env.scope.names.lookup n = some .local)
    (hh : ∀ a, PSs (X.inExc (.ref a) (fun _ _ => False)) (h0 :: hs) th)
    (hdb2 : (cx == ("__debug__" : Str)) = false := by decide) :
    PS X (.Try body [.ExceptHandler (some (.Name cx cp)) (some n) (h0 :: hs) hpos] [] [] tpos) (tTryH X.base t C2 ie th) := by
  intro pins s σ H D I h
  refine wpAny_Try_except ?_
  refine wpAny_mono (B pins s σ H D _ I h) (fun f s' hf => ?_) (fun e s' hf => ?_)
  · cases f with
    | next => exact wpAny_execs_nil hf
    | brk => exact hf
    | cont => exact hf
    | ret u => exact hf
  · obtain ⟨a, T, C, H', rfl, J1, fl, la, lT, hU, hq⟩ := hf
    have nex : ∀ b : Addr, b ∉ X.ex := fun b z => by rw [hex] at z; cases z
    have hA : X.A.frames = some (X.env :: X.outer) := hst ▸ I.ok.frames
    have hF1 : s'.heap.FunFrames X.base (X.env :: X.outer) := hst ▸ J1.stack
    refine note_more hA hF1 hfr fl fun h2 T2 b2 nT2 f2 => ?_
    have J2 := J1.but (h' := h2) (by rw [hst]; exact b2) (fun c hc => by
      rcases List.mem_cons.mp hc with rfl | hc
      · exact la
      · rw [List.mem_singleton.mp hc]; exact lT)
    have lT2 : Loose X pins H' T2 := J1.loose (nex T2) nT2
    refine fly_none (s := { s' with heap := h2 }) f2 fun h3 b3 f3 => ?_
    have J3 := J2.but (h' := h3) (b3.mono (fun _ z => nomatch z) (fun _ z => z)) (fun c hc => by rw [List.mem_singleton.mp hc]; exact lT2)
    refine wpAny_handleBy_cons (codeAny_handlers_test ?_) (fun z => by cases z)
    refine ld_glob (X := X.inExc (.ref a) X.xe) (J3.inExc _ _) hg2 O2.bound ?_ hdb2
    obtain ⟨bm, N, nm, qn, bs, hdct, sn, sub, ab, col, dd, k0, k1, k2, k3, k5, newId, hC, hcon⟩ := hU
    obtain ⟨bm2, N2, nm2, q2, bs2, hdct2, sn2, sub2, ab2, col2, dd2, j0, j1, j2, j3, j5, mN2, hC2, _, _, htail2⟩ := O2.obj
    obtain ⟨oe, ovs, oT, ots, hoe, hcl, _⟩ := f3.ex
    refine exc_match (h := h3) (J3.bk _ _ hC) (J3.bk _ _ hC2) hoe hcl (htail2.hasType hbB) ?_
    rw [hcon]
    refine codeAny_handlers_suite_as ?_
    refine fly_none (s := { s' with heap := h3 }) f3 fun h4 b4 f4 => ?_
    have J4 := J3.but (h' := h4) (b4.mono (fun _ z => nomatch z) (fun _ z => z)) (fun c hc => by rw [List.mem_singleton.mp hc]; exact lT2)
    obtain ⟨oe4, _, _, _, hoe4, hcl4, _⟩ := f4.ex
    have J5 := J4.adopt (C := C) la ⟨oe4, hoe4, hcl4⟩
    refine store_ok (X := X.inExc (.ref a) X.xe) (J5.inExc _ _) hN hie (.inl hn) (v := .ref a) rfl (fun s5 I5 => ?_) (.inr hn)
    have I5' : Inv X pins (σ.set ie (some (.ref a))) (upd H' a (.ext (ExcO C a))) s5 := I5.outExc I.ok
    refine wpAny_mono (hh a pins s5 _ _ _ (I5'.inExc _ _) (hq a la.un)) (fun fl2 s6 hs6 => ?_) (fun _ _ z => False.elim z)
    cases fl2 with
    | next =>
      obtain ⟨σ3, H3, I6, e3⟩ := hs6
      exact name_goes2 (I6.outExc I.ok) hN hie hn fun s7 I7 => ⟨_, _, I7, e3⟩
    | brk => obtain ⟨_, _, _, z⟩ := hs6; exact False.elim z
    | cont => obtain ⟨_, _, _, z⟩ := hs6; exact False.elim z
    | ret u => obtain ⟨_, _, _, _, _, z⟩ := hs6; exact False.elim z
end L2
set_option Elab.async false
set_option linter.all false
set_option maxRecDepth 100000
set_option maxHeartbeats 4000000
namespace L2
open PySem PySem.Spec PyProof.Rows
theorem figB_iff {c : Nat} : figB c = true ↔ 48 ≤ c ∧ c ≤ 57 := by
  refine ⟨fun h => ?_, figB_of⟩
  unfold figB at h
  rw [show (Str.ofString "0").cps.toList = [48] by decide +kernel, show (Str.ofString "9").cps.toList = [57] by decide +kernel] at h
  simp only [Bool.and_eq_true, Bool.not_eq_true', decide_eq_false_iff_not, lt_one] at h
  omega
theorem foldV : ∀ (cs : List Nat) (acc : Nat), (∀ c ∈ cs, 48 ≤ c ∧ c ≤ 57) → cs.foldl (fun a c => a * 10 + (c - 48)) acc < (acc + 1) * 10 ^ cs.length
  | [], acc, _ => by show acc < (acc + 1) * 1; omega
  | c :: cs, acc, h => by
    have hc := h c List.mem_cons_self
    have ih := foldV cs (acc * 10 + (c - 48)) fun d hd => h d (List.mem_cons_of_mem _ hd)
    show cs.foldl _ (acc * 10 + (c - 48)) < (acc + 1) * 10 ^ (cs.length + 1)
    refine Nat.lt_of_lt_of_le ih ?_
    rw [Nat.pow_succ, Nat.mul_comm (10 ^ cs.length) 10, ← Nat.mul_assoc]
    exact Nat.mul_le_mul_right _ (by omega)
theorem numB_reads {z : Str} (h : numB z = true) : ∃ n : Int, PySem.intText? z = some n ∧ 0 ≤ n ∧ n < 10 ^ 30 ∧ z.length ≤ 30 := by
  unfold numB at h
  simp only [Bool.and_eq_true, decide_eq_true_eq] at h
  obtain ⟨⟨h1, h2⟩, h3, _⟩ := h
  have hd : ∀ c ∈ z.cps.toList, 48 ≤ c ∧ c ≤ 57 := fun c hc => figB_iff.mp (List.all_eq_true.mp h3 c hc)
  have el : z.length = z.cps.toList.length := by simp [Str.length]
  have hne : z.cps.toList ≠ [] := fun e => by rw [e] at el; simp at el; omega
  have e := PySem.intText_digits (x := z) hd hne (by omega)
  refine ⟨_, e, Int.natCast_nonneg _, ?_, by omega⟩
  have hb := foldV z.cps.toList 0 hd
  have h10 : 10 ^ z.cps.toList.length ≤ 10 ^ 30 := Nat.pow_le_pow_right (by decide) (by omega)
  have e30 : ((10 ^ 30 : Nat) : Int) = (10 : Int) ^ 30 := Int.natCast_pow 10 30
  rw [← e30]
  refine Int.ofNat_lt.mpr ?_
  show z.cps.toList.foldl _ 0 < 10 ^ 30
  omega
def numI (z : Str) : Int := (PySem.intText? z).getD 0
theorem numI_reads {z : Str} (h : numB z = true) : PySem.intText? z = some (numI z) ∧ 0 ≤ numI z ∧ numI z < 10 ^ 30 ∧ z.length ≤ 30 := by
  obtain ⟨n, e, h0, h1, h2⟩ := numB_reads h
  have : numI z = n := by unfold numI; rw [e]; rfl
  rw [this]
  exact ⟨e, h0, h1, h2⟩
/-- what a word tells -/
def numV (z : Str) : V := if numB z then .int (numI z) else .non
/-- the words of a text -/
def wds (z : Str) : List Str := Txt.split z (" " : Str)
def goodB (z : Str) : Bool := z == ("-" : Str) || (wds z).all numB
def numsAt (z : Str) : List Int := if z = ("-" : Str) then [] else (wds z).map numI
theorem join_len (y : Str) (zs : List Str) : (Txt.join y zs).length ≤ (zs.map (·.length)).sum + zs.length * y.length := by
  rw [TL.join_eq]
  have h1 := joinL_len (TL.tl y) (zs.map TL.tl)
  rw [← TL.tl_join] at h1
  have h2 : ((zs.map TL.tl).map (·.length)).sum = (zs.map (·.length)).sum := by
    rw [List.map_map]
    first
      | rfl
      | (congr 1; exact List.map_congr_left fun z _ => (TL.len_tl z).symm)
  rw [h2, List.length_map, ← TL.len_tl] at h1
  rw [TL.len_tl]
  exact h1
theorem sum_leB (B : Nat) : ∀ zs : List Str, (∀ z ∈ zs, z.length ≤ B) → (zs.map (·.length)).sum ≤ B * zs.length
  | [], _ => Nat.zero_le _
  | z :: r, h => by
    have h1 := h z List.mem_cons_self
    have h2 := sum_leB B r fun y hy => h y (List.mem_cons_of_mem _ hy)
    rw [List.map_cons, List.sum_cons, List.length_cons, Nat.mul_succ]
    omega
theorem dpS {K : PySem.W.Frag} {H : Hp} : ∀ zs : List Str, DpAll K H (zs.map V.str) (strsD zs)
  | [] => .nil
  | z :: zs => .cons (.str z) (dpS zs)
def digB (c : Nat) : Bool := decide (c ∈ (Str.ofString "0123456789").cps.toList)
theorem dig_fig (c : Nat) : digB c = figB c := by
  have e : (Str.ofString "0123456789").cps.toList = [48, 49, 50, 51, 52, 53, 54, 55, 56, 57] := by decide +kernel
  rw [Bool.eq_iff_iff, figB_iff]
  unfold digB
  rw [e, decide_eq_true_eq]
  simp only [List.mem_cons, List.not_mem_nil, or_false]
  omega
theorem all_dig (l : List Nat) : (l.map digB).all id = l.all figB := by
  induction l with
  | nil => rfl
  | cons c l ih => rw [List.map_cons, List.all_cons, List.all_cons, ih, id, dig_fig]
theorem spl_le (S : List Nat) : ∀ (l : List Nat) (k : Nat) (acc : List Nat), ∀ p ∈ TL.spl S k acc l, p.length ≤ acc.length + l.length
  | [], k, acc, p, h => by
    have : TL.spl S k acc [] = [acc] := by cases k <;> rfl
    rw [this] at h
    rw [List.mem_singleton.mp h]; exact Nat.le_refl _
  | c :: r, 0, acc, p, h => by
    unfold TL.spl at h
    rw [List.length_cons]
    split at h
    · rcases List.mem_cons.mp h with rfl | h
      · omega
      · have := spl_le S r _ _ p h
        simp only [List.length_nil] at this
        omega
    · have := spl_le S r _ _ p h
      rw [List.length_append] at this
      simp only [List.length_cons, List.length_nil] at this
      omega
  | c :: r, k + 1, acc, p, h => by
    unfold TL.spl at h
    have := spl_le S r _ _ p h
    rw [List.length_cons]; omega
theorem wds_le (z : Str) : ∀ w ∈ wds z, w.length ≤ z.length := fun w hw => by
  have h1 : TL.tl w ∈ (wds z).map TL.tl := List.mem_map.mpr ⟨w, hw, rfl⟩
  rw [wds, TL.split_spl z (" " : Str) (by decide +kernel) (TL.kind_ok (by decide +kernel))] at h1
  have := spl_le _ _ _ _ _ h1
  rw [TL.len_tl w, TL.len_tl z]
  simpa using this
theorem wds_len (z : Str) : (wds z).length ≤ z.length + 2 := PyProof.Rows.split_le z _
theorem pe_bmQ {X : Cx} {K : PySem.W.Frag} {T : String} {name : Str} {id : String} {r : V → List V → Hp → VK → Prop} {o e : Expr} {es : List Expr} {to : TE} {t : TA} {apos cpos : Pos} (hK : X.K = K) (pa : PlainAttrs T) (slot : Slot T name id) (hty : typeOf (.builtin id) = pure (.type "method_descriptor")) (hm : MtR X id r) (ho : PE X o to) (ha : PA X (e :: es) t)
    (hbase : attributeBase o name X.env (eval o X.env) = eval o X.env := by rfl)
    (hfew : ((backTo cpos (starEach (e :: es) X.env)).all (fun x => !x.1) && (backToKw cpos (keywordEach [] X.env)).all (fun x => x.1.isSome)
      && decide ((e :: es).length + ([] : List Keyword).length + (if ([] : List Keyword).isEmpty then 0 else 1) < 30)) = true := by rfl)
    (hline : (apos.endLine == cpos.line) = true := by rfl) (hs : starEach (e :: es) X.env = (false, eval e X.env) :: starEach es X.env := by rfl) (hplain : (backTo cpos (starEach es X.env)).any (·.1) = false := by rfl) :
    PE X (.Call (.Attribute o name apos) (e :: es) [] cpos) (tBM K T r to t) := hK ▸ pe_bm pa slot hty hm ho ha hbase hfew hline hs hplain
theorem inV_wds : ∀ l : List Str, inV .non (l.map numV) = !(l.all numB)
  | [] => rfl
  | w :: l => by
    have ih := inV_wds l
    unfold inV at ih ⊢
    rw [List.map_cons, List.any_cons, List.all_cons, ih]
    unfold numV
    cases h : numB w with
    | true => rfl
    | false => rfl
theorem flat_wds : ∀ l : List Str, (l.map numV).all flatV = true
  | [] => rfl
  | w :: l => by
    rw [List.map_cons, List.all_cons, flat_wds l]
    unfold numV
    cases h : numB w with
    | true => rfl
    | false => rfl
theorem numV_all : ∀ l : List Str, (∀ w ∈ l, numB w = true) → l.map numV = (l.map numI).map V.int
  | [], _ => rfl
  | w :: l, h => by
    rw [List.map_cons, List.map_cons, List.map_cons, numV_all l fun y hy => h y (List.mem_cons_of_mem _ hy)]
    unfold numV
    rw [h w List.mem_cons_self]; rfl
theorem inV_ints : ∀ l : List Int, inV .non (l.map V.int) = false
  | [] => rfl
  | w :: l => by
    have ih := inV_ints l
    unfold inV at ih ⊢
    rw [List.map_cons, List.any_cons, ih]; rfl
theorem flat_ints : ∀ l : List Int, (l.map V.int).all flatV = true
  | [] => rfl
  | w :: l => by rw [List.map_cons, List.all_cons, flat_ints l]; rfl
theorem numsAt_ok {z : Str} (h : goodB z = true) : (∀ n ∈ numsAt z, 0 ≤ n ∧ n < 10 ^ 30) ∧ (numsAt z).length ≤ z.length + 2 := by
  unfold numsAt
  by_cases e : z = ("-" : Str)
  · rw [if_pos e]; exact ⟨fun _ h => (nomatch h), Nat.zero_le _⟩
  · rw [if_neg e]
    have ha : (wds z).all numB = true := by
      unfold goodB at h
      have : (z == ("-" : Str)) = false := by simpa using e
      rw [this] at h; exact h
    refine ⟨fun n hn => ?_, by rw [List.length_map]; exact wds_len z⟩
    obtain ⟨w, hw, rfl⟩ := List.mem_map.mp hn
    obtain ⟨_, h0, h1, _⟩ := numI_reads (List.all_eq_true.mp ha w hw)
    exact ⟨h0, h1⟩
theorem repr_nl2 {K : PySem.W.Frag} {H : Hp} {a : Addr} {xs : List Int} {Q : VK} (hs : SqL K H a (xs.map V.int)) (h : ∀ n ∈ xs, 0 ≤ n ∧ n < 10 ^ 30) (hl : xs.length ≤ 40000) (q : Q (.str (PyData.shown (.list (xs.map PyData.int)))) H) : rRepr K [.ref a] H Q := by
  have hb : ∀ n ∈ xs, n.natAbs < 2 ^ 100 := fun n hn => big_of (h n hn).1 (h n hn).2
  refine ⟨_, _, rfl, Dp.ints hs, showable_nl _ hb, nodict_ints _, ?_, ?_, q⟩
  · show PyData.depthAll (xs.map PyData.int) + 1 ≤ 64
    rw [depth_ints]; decide
  · have h1 := listText_len_le (PyData.shownAll (xs.map PyData.int))
    have h2 := len_nl xs hb
    refine Nat.le_trans (m := 2000000) ?_ (by decide)
    show (listText (PyData.shownAll (xs.map PyData.int))).length ≤ 2000000
    omega
theorem swaps_list (es : List Expr) (p : Pos) (tg : Option Expr) (n : Nat) (env : Env) : swapsWith (.List es p) tg n env = pure false := rfl
theorem ps_setL {X : Cx} {i : Nat} {x : Str} {es : List Expr} {p pos pos' : Pos} {te : TE} (hN : X.N.Nodup) (hi : X.N[i]? = some x) (hx : Loc X.env.scope x) (he : PE X (.List es p) te) (hf : X.fn x = true ∨ X.env.scope.names.lookup x = some .local) : PS X (.Assign [.Name x pos'] (.List es p) pos) (tAsg te (gName i)) :=
  ps_set hN hi hx he (swaps_list _ _ _ _ _) hf
def strOk : V → Bool
  | .str z => decide (z.length ≤ 1000)
  | _ => false
def AllS (xs : List V) (n : Nat) : Prop := xs.length ≤ n ∧ xs.all strOk = true
theorem AllS.cat {xs ys : List V} {n m : Nat} (a : AllS xs n) (b : AllS ys m) : AllS (xs ++ ys) (n + m) := ⟨by rw [List.length_append]; exact Nat.add_le_add a.1 b.1, by rw [List.all_append, a.2, b.2]; rfl⟩
theorem AllS.get {xs : List V} {n : Nat} (a : AllS xs n) {i : Int} {v : V} (h : atI xs i = some v) : ∃ z, v = .str z ∧ z.length ≤ 1000 := by
  obtain ⟨j, h1, h2, _⟩ := atI_get h
  have := List.all_eq_true.mp a.2 v (List.mem_of_getElem? h2)
  cases v with
  | str z => exact ⟨z, rfl, of_decide_eq_true this⟩
  | _ => exact absurd this (by simp [strOk])
theorem oddAt {z : Str} {v : Int} (h0 : 0 ≤ v) (h1 : v < z.length) : ∃ c, atI z.cps.toList v = some c := by
  have el : z.length = z.cps.toList.length := by simp [Str.length]
  obtain ⟨j, rfl⟩ := Int.eq_ofNat_of_zero_le h0
  have hj : j < z.cps.toList.length := by omega
  exact ⟨_, atI_nat (j := j) (List.getElem?_eq_getElem hj)⟩
theorem AllS.at {xs : List V} {n : Nat} (a : AllS xs n) {v : Int} (h0 : 0 ≤ v) (h1 : v < xs.length) : ∃ z : Str, atI xs v = some (.str z) ∧ z.length ≤ 1000 := by
  obtain ⟨j, rfl⟩ := Int.eq_ofNat_of_zero_le h0
  have hj : j < xs.length := by omega
  have h := atI_nat (j := j) (List.getElem?_eq_getElem hj)
  obtain ⟨z, e, hz⟩ := a.get h
  exact ⟨z, by rw [h, e], hz⟩
theorem sum_drop_le : ∀ (n : Nat) (l : List Nat), (l.drop n).sum ≤ l.sum
  | 0, _ => Nat.le_refl _
  | _ + 1, [] => Nat.le_refl _
  | n + 1, a :: l => by
    have := sum_drop_le n l
    rw [List.drop_succ_cons, List.sum_cons]; omega
theorem sum_take_le : ∀ (n : Nat) (l : List Nat), (l.take n).sum ≤ l.sum
  | 0, l => by rw [List.take_zero]; exact Nat.zero_le _
  | _ + 1, [] => Nat.le_refl _
  | n + 1, a :: l => by
    have := sum_take_le n l
    rw [List.take_succ_cons, List.sum_cons, List.sum_cons]; omega
theorem cutV_strs (ws : List Str) (lo hi : Option Int) : ∃ us : List Str, cutV (ws.map V.str) lo hi = us.map V.str ∧ us.length ≤ ws.length ∧ (us.map (·.length)).sum ≤ (ws.map (·.length)).sum := by
  unfold cutV
  rw [← List.map_drop, ← List.map_take]
  refine ⟨_, rfl, ?_, ?_⟩
  · rw [List.length_take, List.length_drop]; omega
  · rw [List.map_take, List.map_drop]
    exact Nat.le_trans (sum_take_le _ _) (sum_drop_le _ _)
theorem spl_sum (S : List Nat) : ∀ (l : List Nat) (k : Nat) (acc : List Nat), ((TL.spl S k acc l).map (·.length)).sum ≤ acc.length + l.length
  | [], k, acc => by
    have : TL.spl S k acc [] = [acc] := by cases k <;> rfl
    rw [this]
    show acc.length + 0 ≤ acc.length + 0
    exact Nat.le_refl _
  | c :: r, 0, acc => by
    unfold TL.spl
    rw [List.length_cons]
    split
    · have := spl_sum S r (S.length - 1) []
      rw [List.map_cons, List.sum_cons]
      simp only [List.length_nil] at this
      omega
    · have := spl_sum S r 0 (acc ++ [c])
      rw [List.length_append] at this
      simp only [List.length_cons, List.length_nil] at this
      omega
  | c :: r, k + 1, acc => by
    unfold TL.spl
    have := spl_sum S r k acc
    rw [List.length_cons]; omega
theorem wds_sum (z : Str) : ((wds z).map (·.length)).sum ≤ z.length := by
  have h1 := TL.split_spl z (" " : Str) (by decide +kernel) (TL.kind_ok (by decide +kernel))
  have h2 := spl_sum (TL.tl (" " : Str)) (TL.tl z) 0 []
  rw [← h1, List.map_map] at h2
  rw [TL.len_tl z]
  have e : (wds z).map (·.length) = (Txt.split z (" " : Str)).map ((fun x => x.length) ∘ TL.tl) := List.map_congr_left fun w _ => TL.len_tl w
  rw [e]
  simpa using h2
theorem str_len_add (a b : Str) : (a ++ b).length = a.length + b.length := by
  show (a.cps ++ b.cps).size = _
  rw [Array.size_append]; rfl
theorem flat_rep (w : Str) : ∀ n : Nat, (List.replicate n [V.str w]).flatten = (List.replicate n w).map V.str
  | 0 => rfl
  | n + 1 => by
    rw [List.replicate_succ, List.flatten_cons, flat_rep w n]
    rfl
theorem rep_sum (w : Str) (hw : w.length ≤ 2) (n : Nat) : ((List.replicate n w).map (·.length)).sum ≤ 2 * n := by
  have := sum_leB 2 (List.replicate n w) fun z hz => by rw [List.eq_of_mem_replicate hz]; exact hw
  rwa [List.length_replicate] at this
def spTextD : Sp := fun vs H Q _ => ∃ (p : Addr) (N : Int), vs = [.ref p] ∧ DeckAt H p N ∧ N ≤ 1000 ∧ ∀ z H', z.length ≤ 7000 → DeckAt H' p (N + 500) → Kp p H H' → Q (.str z) H'
def spBadD : Sp := fun vs H Q _ => ∃ (p : Addr) (N : Int), vs = [.ref p] ∧ DeckAt H p N ∧ N ≤ 5000 ∧ ∀ z H', z.length ≤ 1000 → DeckAt H' p (N + 10) → Kp p H H' → Q (.str z) H'
def spSpoiltD : Sp := fun vs H Q _ => ∃ (p : Addr) (y : Str) (N : Int), vs = [.ref p, .str y] ∧ y.length ≤ 7000 ∧ DeckAt H p N ∧ N ≤ 2000 ∧ ∀ z H', z.length ≤ 30000 → Kp p H H' → Q (.str z) H'
def spNumberIn : Sp := fun vs H Q _ => ∃ z : Str, vs = [.str z] ∧ z.length ≤ 30000 ∧ ∀ H', Same H H' → Q (numV z) H'
def spReadB (P T C : Addr) : Sp := fun vs H Q E => ∃ z : Str, vs = [.str z] ∧ z.length ≤ 30000 ∧ H P = some (.ext (TabP P)) ∧ H T = some (.ext (TabP T)) ∧
  (goodB z = true → ∀ p H', H p = none → H' p = some (.lst ((numsAt z).map V.int)) → Same H H' → Q (.ref p) H') ∧ (goodB z = false → ∀ H', Same H H' → E (.ref C) none H')
def spRightD (P T : Addr) : Sp := fun vs H Q _ => ∃ z : Str, vs = [.str z] ∧ z.length ≤ 30000 ∧ H P = some (.ext (TabP P)) ∧ H T = some (.ext (TabP T)) ∧ ∀ H', Same H H' → Q (.bl true) H'
theorem all_in {zs : List Str} {pf : Str → Bool} : ((List.range (zs.map V.str).length).all fun i => match (zs.map V.str)[i]? with | some (.str z) => pf z | _ => false) = zs.all pf := by
  rw [Bool.eq_iff_iff, List.all_eq_true, List.all_eq_true]
  constructor
  · intro h z hz
    obtain ⟨i, hi, rfl⟩ := List.getElem_of_mem hz
    have := h i (List.mem_range.mpr (by rw [List.length_map]; exact hi))
    rw [List.getElem?_map, List.getElem?_eq_getElem hi] at this
    exact this
  · intro h i hi
    have hi' := List.mem_range.mp hi
    rw [List.length_map] at hi'
    rw [List.getElem?_map, List.getElem?_eq_getElem hi']
    exact h _ (List.getElem_mem hi')
end L2
set_option Elab.async false
set_option linter.all false
set_option maxRecDepth 100000
set_option maxHeartbeats 8000000
namespace Lv
open PySem L2
def top (i : Nat) : Stmt := PySem.Challenge.pw_leavings_k50_texts_of_no_list.main.body.getD i (.Pass ⟨0, 0, 0, 0⟩)
section
variable {P : Program} {w : World} {K : PySem.W.Frag} {mg : Str → Option Value} {base : Heap} {f : Addr} {fd : FuncData}
abbrev sLawTake : Stmt := top 14
def nLawTake : List Str := ["deck", "many", "come", "number"]
theorem scLawTake : FnScope nLawTake ["deck", "many"] (defScope sLawTake) := ⟨rfl, rfl, rfl, by decide +kernel, rfl, by decide +kernel, by decide +kernel⟩
theorem ok_take (T : Glb mg)  (F : Fun K "_law_take" "_law_take" sLawTake f fd) : FnOk P w K mg base CX0 1 f fd ["deck", "many"] spTakeD := by
  refine F.ok scLawTake (fun vs H Q E h => ?_) (fun cdv A outer s H vs Q E hr h => ?_)
  · obtain ⟨p, m, N, rfl, _⟩ := h
    rfl
  obtain ⟨p, m, N, rfl, hD, hN, hm0, hm, q⟩ := h
  have hu := hu_of hr
  refine' ⟨_, ?TT, ?RR⟩
  case TT =>
    refine' pss_cons ?x1 ?x2
    case x1 =>
     refine' ps_if ?x3 ?x4 ?x5
     case x3 =>
      refine' pt_cmpR op_eq ?x6 ?x7 (nomark _)
      case x6 =>
       refine' pe_ix ix_list (pv 0) ?x8 (fun _ _ => rfl)
       case x8 =>
        exact pe_int
      case x7 =>
       exact pe_int
     case x4 =>
      refine' pss_cons ?x9 ?x10
      case x9 =>
       refine' ps_set (i := 2) scLawTake.nd rfl (Or.inl rfl) ?x11
       case x11 =>
        refine' pe_op op_mod ?x12 (pv 1)
        case x12 =>
         refine' pe_ix ix_list (pv 0) ?x13 (fun _ _ => rfl)
         case x13 =>
          exact pe_int
      case x10 =>
       refine' pss_cons ?x14 ?x15
       case x14 =>
        refine' ps_asg ?x16 (pg_sub (pv 0) pe_int set_list)
        case x16 =>
         refine' pe_op op_fdivL ?x17 (pv 1)
         case x17 =>
          refine' pe_ix ix_list (pv 0) ?x18 (fun _ _ => rfl)
          case x18 =>
           exact pe_int
       case x15 =>
        refine' pss_one ?x19
        case x19 =>
         exact (ps_ret (pv 2))
     case x5 =>
      exact pss_nil
    case x2 =>
     refine' pss_cons ?x20 ?x21
     case x20 =>
      refine' ps_asg ?x22 (pg_sub (pv 0) pe_int set_list)
      case x22 =>
       refine' pe_op op_add ?x23 ?x24
       case x23 =>
        refine' pe_ix ix_list (pv 0) ?x25 (fun _ _ => rfl)
        case x25 =>
         exact pe_int
       case x24 =>
        exact pe_int
     case x21 =>
      refine' pss_cons ?x26 ?x27
      case x26 =>
       refine' ps_set (i := 3) scLawTake.nd rfl (Or.inl rfl) ?x28
       case x28 =>
        refine' pe_op op_mul ?x29 ?x30
        case x29 =>
         refine' pe_op op_mod ?x31 ?x32
         case x31 =>
          refine' pe_ix ix_list (pv 0) ?x33 (fun _ _ => rfl)
          case x33 =>
           exact pe_int
         case x32 =>
          exact pe_int
        case x30 =>
         refine' pe_op op_add ?x34 ?x35
         case x34 =>
          refine' pe_op op_mul ?x36 ?x37
          case x36 =>
           refine' pe_ix ix_list (pv 0) ?x38 (fun _ _ => rfl)
           case x38 =>
            exact pe_int
          case x37 =>
           refine' pe_ix ix_list (pv 0) ?x39 (fun _ _ => rfl)
           case x39 =>
            exact pe_int
         case x35 =>
          exact pe_int
      case x27 =>
       refine' pss_cons ?x40 ?x41
       case x40 =>
        refine' ps_set (i := 3) scLawTake.nd rfl (Or.inl rfl) ?x42
        case x42 =>
         refine' pe_op op_mod ?x43 ?x44
         case x43 =>
          refine' pe_op op_add ?x45 ?x46
          case x45 =>
           refine' pe_op op_add (pv 3) ?x47
           case x47 =>
            refine' pe_ix ix_list (pv 0) ?x48 (fun _ _ => rfl)
            case x48 =>
             exact pe_int
          case x46 =>
           exact pe_int
         case x44 =>
          exact pe_int
       case x41 =>
        refine' pss_cons ?x49 ?x50
        case x49 =>
         refine' ps_set (i := 3) scLawTake.nd rfl (Or.inl rfl) ?x51
         case x51 =>
          refine' pe_op op_mod ?x52 ?x53
          case x52 =>
           exact (pe_op op_mul (pv 3) (pv 3))
          case x53 =>
           exact pe_int
        case x50 =>
         refine' pss_one ?x54
         case x54 =>
          refine' ps_ret ?x55
          case x55 =>
           refine' pe_op op_mod ?x56 (pv 1)
           case x56 =>
            refine' pe_op op_fdivL ?x57 ?x58
            case x57 =>
             refine' pe_op op_mod ?x59 ?x60
             case x59 =>
              refine' pe_op op_mul (pv 3) ?x61
              case x61 =>
               exact pe_int
             case x60 =>
              exact pe_int
            case x58 =>
             exact pe_int
  case RR =>
    obtain ⟨a, b, c, e, c0, c1⟩ := hD
    have at0 : atI [V.int a, V.int b, V.int c] 0 = some (.int a) := rfl
    have at1 : atI [V.int a, V.int b, V.int c] 1 = some (.int b) := rfl
    have at2 : atI [V.int a, V.int b, V.int c] 2 = some (.int c) := rfl
    refine ⟨_, rfl, p, _, 1, .int b, rfl, rfl, SqL.of e, at1, ?_⟩
    refine ⟨rfl, _, rfl, ?_⟩
    refine ite2 (fun _ => ?_) (fun _ => ?_)
    · refine ⟨_, rfl, p, _, 0, .int a, rfl, rfl, SqL.of e, at0, ?_⟩
      refine ⟨_, rfl, _, _, rfl, rfl, hm0, ?_⟩
      refine ⟨_, rfl, p, _, 0, .int a, rfl, rfl, SqL.of e, at0, ?_⟩
      refine ⟨_, rfl, _, _, rfl, rfl, ⟨hm0, hm⟩, ?_⟩
      refine ⟨_, rfl, p, _, 0, 0, rfl, rfl, e, rfl, ?_⟩
      refine ⟨_, rfl, ?_⟩
      exact q _ _ (Int.emod_nonneg _ (by omega)) (Int.emod_lt_of_pos _ hm0) ⟨_, _, _, upd_same, c0, by omega⟩ (kp_set p H _)
    · refine ⟨_, rfl, p, _, 2, .int c, rfl, rfl, SqL.of e, at2, ?_⟩
      refine ⟨_, _, rfl, rfl, ?_⟩
      refine ⟨_, rfl, p, _, 2, 2, rfl, rfl, e, rfl, ?_⟩
      have e1 : (upd H p (.lst [.int a, .int b, .int (c + 1)])) p = some (.lst [.int a, .int b, .int (c + 1)]) := upd_same
      have k1 : Kp p H (upd H p (.lst [.int a, .int b, .int (c + 1)])) := kp_set p H _
      show tSeq _ _ _ _ (upd H p (.lst [.int a, .int b, .int (c + 1)]))
      generalize upd H p (.lst [.int a, .int b, .int (c + 1)]) = H1 at e1 k1
      have b0 : atI [V.int a, V.int b, V.int (c + 1)] 0 = some (.int a) := rfl
      have b2 : atI [V.int a, V.int b, V.int (c + 1)] 2 = some (.int (c + 1)) := rfl
      have hA : 0 ≤ a % 2147483647 := Int.emod_nonneg _ (by decide)
      have hA2 : a % 2147483647 < 2147483647 := Int.emod_lt_of_pos _ (by decide)
      refine ⟨_, rfl, p, _, 0, .int a, rfl, rfl, SqL.of e1, b0, ?_⟩
      refine ⟨_, _, rfl, rfl, (by decide : (0 : Int) < 2147483647), ?_⟩
      refine ⟨_, rfl, p, _, 2, .int (c + 1), rfl, rfl, SqL.of e1, b2, ?_⟩
      refine ⟨_, rfl, p, _, 2, .int (c + 1), rfl, rfl, SqL.of e1, b2, ?_⟩
      refine ⟨_, _, rfl, rfl, .inl ⟨by omega, by omega⟩, ?_⟩
      refine ⟨_, _, rfl, rfl, ?_⟩
      refine ⟨_, _, rfl, rfl, .inl ⟨by omega, by omega⟩, ?_⟩
      generalize a % 2147483647 * ((c + 1) * (c + 1) + 48271) = n1
      refine ⟨_, rfl, ?_⟩
      refine ⟨_, rfl, p, _, 2, .int (c + 1), rfl, rfl, SqL.of e1, b2, ?_⟩
      refine ⟨_, _, rfl, rfl, ?_⟩
      refine ⟨_, _, rfl, rfl, ?_⟩
      refine ⟨_, _, rfl, rfl, (by decide : (0 : Int) < 2147483629), ?_⟩
      have h2 : 0 ≤ (n1 + (c + 1) + 7) % 2147483629 := Int.emod_nonneg _ (by decide)
      have h3 : (n1 + (c + 1) + 7) % 2147483629 < 2147483629 := Int.emod_lt_of_pos _ (by decide)
      generalize (n1 + (c + 1) + 7) % 2147483629 = n2 at h2 h3
      refine ⟨_, rfl, _, rfl, ?_⟩
      refine ⟨_, _, rfl, rfl, .inl ⟨by omega, by omega⟩, ?_⟩
      refine ⟨_, _, rfl, rfl, (by decide : (0 : Int) < 2147483587), ?_⟩
      have h4 : 0 ≤ n2 * n2 % 2147483587 := Int.emod_nonneg _ (by decide)
      have h5 : n2 * n2 % 2147483587 < 2147483587 := Int.emod_lt_of_pos _ (by decide)
      generalize n2 * n2 % 2147483587 = n3 at h4 h5
      refine ⟨_, rfl, ?_⟩
      refine ⟨_, _, rfl, rfl, .inl ⟨by omega, by omega⟩, ?_⟩
      refine ⟨_, _, rfl, rfl, (by decide : (0 : Int) < 2147483563), ?_⟩
      refine ⟨_, _, rfl, rfl, ⟨by decide, by decide⟩, ?_⟩
      refine ⟨_, rfl, ?_⟩
      refine ⟨_, _, rfl, rfl, hm0, ?_⟩
      exact q _ _ (Int.emod_nonneg _ (by omega)) (Int.emod_lt_of_pos _ hm0) ⟨_, _, _, e1, by omega, by omega⟩ k1
abbrev sLawDeck : Stmt := top 15
def nLawDeck : List Str := ["cell", "k"]
theorem scLawDeck : FnScope nLawDeck ["cell", "k"] (defScope sLawDeck) := ⟨rfl, rfl, rfl, by decide +kernel, rfl, by decide +kernel, by decide +kernel⟩
theorem ok_deck (T : Glb mg)  (F : Fun K "_law_deck" "_law_deck" sLawDeck f fd) : FnOk P w K mg base CX0 1 f fd ["cell", "k"] spDeckD := by
  refine F.ok scLawDeck (fun vs H Q E h => ?_) (fun cdv A outer s H vs Q E hr h => ?_)
  · obtain ⟨a, k, rfl, _⟩ := h
    rfl
  obtain ⟨a, k, rfl, hk0, hk, q⟩ := h
  have hu := hu_of hr
  refine' ⟨_, ?TT, ?RR⟩
  case TT =>
    refine' pss_cons ?x62 ?x63
    case x62 =>
     refine' ps_if ?x64 ?x65 ?x66
     case x64 =>
      refine' pt_cmpR op_ge (pv 0) ?x67 (nomark _)
      case x67 =>
       refine' pe_op op_pow ?x68 ?x69
       case x68 =>
        exact pe_int
       case x69 =>
        exact pe_int
     case x65 =>
      refine' pss_one ?x70
      case x70 =>
       refine' ps_ret ?x71
       case x71 =>
        refine' pe_lst ?x72
        case x72 =>
         refine' pa_BinOp ?x73 ?x74
         case x73 =>
          refine' pe_op op_sub (pv 0) ?x75
          case x75 =>
           refine' pe_op op_pow ?x76 ?x77
           case x76 =>
            exact pe_int
           case x77 =>
            exact pe_int
         case x74 =>
          refine' pa_Const ?x78 ?x79
          case x78 =>
           exact pe_int
          case x79 =>
           refine' pa_Name (pv 1) ?x80
           case x80 =>
            exact pa_nil
     case x66 =>
      exact pss_nil
    case x63 =>
     refine' pss_one ?x81
     case x81 =>
      refine' ps_ret ?x82
      case x82 =>
       refine' pe_lst ?x83
       case x83 =>
        refine' pa_Name (pv 0) ?x84
        case x84 =>
         refine' pa_Const ?x85 ?x86
         case x85 =>
          exact pe_int
         case x86 =>
          refine' pa_Name (pv 1) ?x87
          case x87 =>
           exact pa_nil
  case RR =>
    have pw : CPow 10 18 := ⟨by decide, by decide, by decide⟩
    refine ⟨_, rfl, _, _, rfl, rfl, pw, ?_⟩
    refine ⟨_, _, rfl, rfl, _, rfl, ?_⟩
    refine ite2 (fun _ => ?_) (fun _ => ?_)
    · refine ⟨_, rfl, _, _, rfl, rfl, pw, ?_⟩
      refine ⟨_, _, rfl, rfl, ?_⟩
      refine ⟨_, rfl, ?_⟩
      refine ⟨(by show 3 ≤ sizeLine; decide), fun l nl => ?_⟩
      exact q l _ nl ⟨_, _, _, upd_same, by omega, by omega⟩ (same_new nl _)
    · refine ⟨_, rfl, _, rfl, ?_⟩
      refine ⟨(by show 3 ≤ sizeLine; decide), fun l nl => ?_⟩
      exact q l _ nl ⟨_, _, _, upd_same, by omega, by omega⟩ (same_new nl _)
abbrev sLawText : Stmt := top 16
def nLawText : List Str := ["deck", "numbers", "k"]
theorem scLawText : FnScope nLawText ["deck"] (defScope sLawText) := ⟨rfl, rfl, rfl, by decide +kernel, rfl, by decide +kernel, by decide +kernel⟩
theorem ok_text (T : Glb mg) (c_law_take : Callee P w K mg base 1 "_law_take" ["deck", "many"] spTakeD) (F : Fun K "_law_text" "_law_text" sLawText f fd) : FnOk P w K mg base CX0 2 f fd ["deck"] spTextD := by
  refine F.ok scLawText (fun vs H Q E h => ?_) (fun cdv A outer s H vs Q E hr h => ?_)
  · obtain ⟨p, N, rfl, _⟩ := h
    rfl
  obtain ⟨p, N, rfl, hD, hN, q⟩ := h
  have hu := hu_of hr
  refine' ⟨_, ?TT, ?RR⟩
  case TT =>
    refine' pss_cons ?x88 ?x89
    case x88 =>
     refine' ps_set (i := 1) scLawText.nd rfl (Or.inl rfl) ?x90
     case x90 =>
      refine' pe_lst ?x91
      case x91 =>
       exact pa_nil
    case x89 =>
     refine' pss_cons ?x92 ?x93
     case x92 =>
      refine' ps_for PassesOwn.never rfl ?x94 (pg_name (i := 2) scLawText.nd rfl (Or.inl rfl)) ?x95
      case x94 =>
       refine' pi_range1 rfl T.m_range ?x96
       case x96 =>
        refine' pa_Call ?x97 ?x98
        case x97 =>
         refine' pe_callC c_law_take hr rfl ?x99
         case x99 =>
          refine' pa_Name (pv 0) ?x100
          case x100 =>
           refine' pa_Subscript ?x101 ?x102
           case x101 =>
            refine' pe_ix ix_list ?x103 ?x104 (fun _ _ => rfl)
            case x103 =>
             refine' pe_lst ?x105
             case x105 =>
              refine' pa_Const ?x106 ?x107
              case x106 =>
               exact pe_int
              case x107 =>
               refine' pa_Const ?x108 ?x109
               case x108 =>
                exact pe_int
               case x109 =>
                exact pa_nil
            case x104 =>
             refine' pe_callTy call_int1 rfl T.m_int (by decide +kernel) ?x110
             case x110 =>
              refine' pa_Compare ?x111 ?x112
              case x111 =>
               refine' pe_cmpR op_eq ?x113 ?x114 (nomark _)
               case x113 =>
                refine' pe_callC c_law_take hr rfl ?x115
                case x115 =>
                 refine' pa_Name (pv 0) ?x116
                 case x116 =>
                  refine' pa_Const ?x117 ?x118
                  case x117 =>
                   exact pe_int
                  case x118 =>
                   exact pa_nil
               case x114 =>
                exact pe_int
              case x112 =>
               exact pa_nil
           case x102 =>
            exact pa_nil
        case x98 =>
         exact pa_nil
      case x95 =>
       refine' pss_one ?x119
       case x119 =>
        refine' ps_expr ?x120
        case x120 =>
         refine' pe_bm PySem.F.plainAttrs_list PySem.F.slot_list_append PySem.F.type_list_append mt_append (pv 1) ?x121
         case x121 =>
          refine' pa_Call ?x122 ?x123
          case x122 =>
           refine' pe_callTy call_str_int rfl T.m_str (by decide +kernel) ?x124
           case x124 =>
            refine' pa_Call ?x125 ?x126
            case x125 =>
             refine' pe_callC c_law_take hr rfl ?x127
             case x127 =>
              refine' pa_Name (pv 0) ?x128
              case x128 =>
               refine' pa_Subscript ?x129 ?x130
               case x129 =>
                refine' pe_ix ix_list ?x131 ?x132 (fun _ _ => rfl)
                case x131 =>
                 refine' pe_lst ?x133
                 case x133 =>
                  refine' pa_Const ?x134 ?x135
                  case x134 =>
                   exact pe_int
                  case x135 =>
                   refine' pa_Const ?x136 ?x137
                   case x136 =>
                    exact pe_int
                   case x137 =>
                    refine' pa_Const ?x138 ?x139
                    case x138 =>
                     exact pe_int
                    case x139 =>
                     refine' pa_BinOp ?x140 ?x141
                     case x140 =>
                      refine' pe_op op_pow ?x142 ?x143
                      case x142 =>
                       exact pe_int
                      case x143 =>
                       exact pe_int
                     case x141 =>
                      exact pa_nil
                case x132 =>
                 refine' pe_callC c_law_take hr rfl ?x144
                 case x144 =>
                  refine' pa_Name (pv 0) ?x145
                  case x145 =>
                   refine' pa_Const ?x146 ?x147
                   case x146 =>
                    exact pe_int
                   case x147 =>
                    exact pa_nil
               case x130 =>
                exact pa_nil
            case x126 =>
             exact pa_nil
          case x123 =>
           exact pa_nil
     case x93 =>
      refine' pss_one ?x148
      case x148 =>
       refine' ps_ret ?x149
       case x149 =>
        refine' pe_ifExp ?x150 ?x151 ?x152
        case x150 =>
         refine' pt_cmpR (op_eqD hr.units) (pv 1) ?x153 (nomark _)
         case x153 =>
          refine' pe_lst ?x154
          case x154 =>
           exact pa_nil
        case x151 =>
         exact pe_str
        case x152 =>
         refine' pe_join ?x155 (pv 1)
         case x155 =>
          exact pe_str
  case RR =>
    have p12 : CPow 10 12 := ⟨by decide, by decide, by decide⟩
    refine ⟨(by show 0 ≤ sizeLine; decide), fun D nD => ?_⟩
    have nDp : D ≠ p := hD.ne nD
    have hD0 := hD.same (same_new nD (.lst []))
    have k0 : Kp p H (upd H D (.lst [])) := (same_new nD _).kp p
    have e0 : (upd H D (.lst [])) D = some (.lst []) := upd_same
    generalize upd H D (.lst []) = H0 at hD0 k0 e0
    refine ⟨_, rfl, (by show 2 ≤ sizeLine; decide), fun lm nlm => ?_⟩
    generalize jm : upd _ lm _ = H1
    have s1 := upS jm nlm; have e1 := upE jm
    have nlmp : lm ≠ p := hD0.ne nlm
    refine ⟨_, rfl, p, 6, _, rfl, hD0.same s1, by omega, by decide, by decide, fun n H2 n0 n1 hD2 k2 => ?_⟩
    refine ⟨rfl, .inr ⟨_, rfl, ?_⟩⟩
    obtain ⟨mo, hmo, m0, m1⟩ : ∃ mo : Int, atI [V.int 20, V.int 200] (if decide (V.int n = V.int 0) = true then 1 else 0) = some (.int mo) ∧ 0 < mo ∧ mo ≤ 200 := by
      split
      · exact ⟨200, rfl, by decide, by decide⟩
      · exact ⟨20, rfl, by decide, by decide⟩
    refine ⟨lm, _, _, _, rfl, rfl, SqL.of (k2 _ _ e1 nlmp), hmo, ?_⟩
    refine ⟨p, mo, _, rfl, hD2, by omega, m0, by omega, fun u H3 u0 u1 hD3 k3 => ?_⟩
    have e3 := k3 _ _ (k2 _ _ (s1 _ _ e0) nDp) nDp
    have k03 : Kp p H H3 := k0.trans ((s1.kp p).trans (k2.trans k3))
    refine ⟨u, rfl, by omega, by omega, ?_⟩
    refine for_range (lo := 0) (n := u.toNat) (fun i σ HA => DeckAt HA p (N + 1 + 1 + 2 * i) ∧ Kp p H HA ∧ (∃ zs : List Str, zs.length = i ∧ (∀ z ∈ zs, z.length ≤ 30 ∧ Asc z) ∧ HA D = some (.lst (zs.map V.str))) ∧ ∃ v2 : Option V, σ = [some (.ref p), some (.ref D), v2]) ?_ ?_ ?_
    · exact ⟨hD3.mono (by omega), k03, ⟨[], rfl, (fun _ h => nomatch h), e3⟩, _, rfl⟩
    · rintro i σ HA hi ⟨hDA, kA, ⟨zs, hzl, hz, hA⟩, v2, rfl⟩
      refine ⟨_, rfl, .inl ⟨rfl, _, SqL.of hA⟩, _, rfl, _, _, rfl, rfl, p12, (by show 4 ≤ sizeLine; decide), fun lq nlq => ?_⟩
      generalize jq : upd _ lq _ = H4
      have s4 := upS jq nlq; have e4 := upE jq
      have nlqp : lq ≠ p := hDA.ne nlq
      refine ⟨_, rfl, p, 4, _, rfl, hDA.same s4, by omega, by decide, by decide, fun n H5 n0 n1 hD5 k5 => ?_⟩
      obtain ⟨m, hm, m0, m1⟩ : ∃ m : Int, atI [V.int 2, V.int 10, V.int 1000, V.int (10 ^ (12 : Int).toNat)] n = some (.int m) ∧ 0 < m ∧ m ≤ 10 ^ 12 := by
        have hv : n = 0 ∨ n = 1 ∨ n = 2 ∨ n = 3 := by omega
        rcases hv with rfl | rfl | rfl | rfl
        · exact ⟨_, rfl, by decide, by decide⟩
        · exact ⟨_, rfl, by decide, by decide⟩
        · exact ⟨_, rfl, by decide, by decide⟩
        · exact ⟨_, rfl, by decide, by decide⟩
      refine ⟨lq, _, _, _, rfl, rfl, SqL.of (k5 _ _ e4 nlqp), hm, ?_⟩
      have t2 : (10 : Int) ^ 12 < 2 ^ 64 := by decide
      have t3 : (10 : Int) ^ 12 < 10 ^ 30 := by decide
      refine ⟨p, m, _, rfl, hD5, by omega, m0, by omega, fun v H6 v0 v1 hD6 k6 => ?_⟩
      have vb : 0 ≤ v ∧ v < 10 ^ 30 := ⟨v0, by omega⟩
      refine ⟨v, rfl, log_of (big_of vb.1 vb.2), ?_⟩
      have h6 := k6 _ _ (k5 _ _ (s4 _ _ hA) nDp) nDp
      obtain ⟨mv, ev, hmv⟩ := tl_num vb
      refine ⟨D, _, _, rfl, rfl, h6, by rw [List.length_map]; exact small1000 (by omega), (hD6.upd nDp.symm _).mono (by omega), fun b o e ne => ?_, ⟨zs ++ [numS v], by rw [List.length_append, hzl]; rfl, fun z hm => ?_, ?_⟩, _, rfl⟩
      · have hb : b ≠ D := fun z => by rw [z, nD] at e; cases e
        rw [upd_ne hb]
        exact k6 _ _ (k5 _ _ (s4 _ _ (kA _ _ e ne)) ne) ne
      · rcases List.mem_append.mp hm with h | h
        · exact hz z h
        · rw [List.mem_singleton.mp h, ev]
          exact ⟨(numS_len hmv).2, fun c hc => by have := numS_digits mv c hc; omega⟩
      · rw [upd_same, List.map_append]; rfl
    · rintro σ HA ⟨hDA, kA, ⟨zs, hzl, hz, hA⟩, v2, rfl⟩
      have lz : zs.length ≤ 200 := by omega
      have hDf : DeckAt HA p (N + 500) := hDA.mono (by omega)
      refine ⟨_, rfl, (by show 0 ≤ sizeLine; decide), fun e0 ne0 => ?_⟩
      generalize jE : upd _ e0 _ = HE
      have sE := upS jE ne0; have eE := upE jE
      refine ⟨_, _, Dp.lst (SqL.of (sE _ _ hA)) (dpS zs), .lst (SqL.of eE) .nil, shaped_strs zs fun z h => (hz z h).2, rfl, _, rfl, ?_⟩
      have hDE := hDf.same sE
      have kE := kA.trans (sE.kp p)
      refine ite2 (fun _ => ?_) (fun _ => ?_)
      · exact q _ _ (by decide +kernel) hDE kE
      refine ⟨⟨_, rfl⟩, _, rfl, ?_⟩
      have hsum := sum_leB 30 zs fun z h => (hz z h).1
      have e1 : (" " : Str).length = 1 := by decide +kernel
      refine ⟨_, D, zs, rfl, rfl, .inl (SqL.of (sE _ _ hA)), by rw [e1]; omega, ?_⟩
      refine q _ _ ?_ hDE kE
      have := join_len (" " : Str) zs
      rw [e1] at this
      omega
end
end Lv
set_option Elab.async false
set_option linter.all false
set_option maxRecDepth 100000
set_option maxHeartbeats 8000000
namespace Lv
open PySem L2
section
variable {P : Program} {w : World} {K : PySem.W.Frag} {mg : Str → Option Value} {base : Heap} {f : Addr} {fd : FuncData}
abbrev sIsNumber : Stmt := top 11
def nIsNumber : List Str := ["word", "figure"]
theorem scIsNumber : FnScope nIsNumber ["word"] (defScope sIsNumber) := ⟨rfl, rfl, rfl, by decide +kernel, rfl, by decide +kernel, by decide +kernel⟩
theorem num_body {cN T1 : Addr} {tm : Tok} (T : Glb mg) (B : BModB base mg) (ckN : CodeK K cN T1) (hmm : mg "MOST_FIGURES" = some (.int 30 tm)) (M : Mod K mg base) (hT : base.get? T1 = none) : NumBody P w base T1 cN "word" sIsNumber numB := by
  intro A E s env m z tz hh room bk hsc eg eb hcode hcells nT tab ns hmx hz
  have hk : ∀ x, env.kindOf x = (defScope sIsNumber).names.lookup x := fun x => by show env.scope.names.lookup x = _; rw [hsc]
  exact low_num (c := cN) (T := T1) (tm := tm) (m := m) (z := z) (tz := tz) hh room M B bk hT (by rw [hsc]; rfl) eg eb ((hk _).trans rfl) T.m_all ((hk _).trans rfl) T.m_len ((hk _).trans rfl) hmm hcode ckN tab nT ns (by rw [hsc]; rfl) hmx hz rfl rfl (by decide) rfl rfl rfl
abbrev sReadList : Stmt := top 10
def nReadList : List Str := ["text", "words", "word"]
theorem scReadList : FnScope nReadList ["text"] (defScope sReadList) := ⟨rfl, rfl, rfl, by decide +kernel, rfl, by decide +kernel, by decide +kernel⟩
theorem ok_readB (T : Glb mg) {c cN P1 T1 fN C : Addr} {fdN : FuncData} {tm : Tok} (O : PyProof.Rows.OwnCls "NoText" C bmVE "ValueError.__new__" mg base) (B : BModB base mg) (ck : CodeK K c P1) (hc : fd.code = .ref c) (ckN : CodeK K cN T1) (hcN : fdN.code = .ref cN) (FN : Fun K "is_number" "is_number" sIsNumber fN fdN) (bN : Binds K fdN ["word"] []) (mN : mg "is_number" = some (.ref fN)) (hmm : mg "MOST_FIGURES" = some (.int 30 tm)) (F : Fun K "read_list" "read_list" sReadList f fd) : FnOk P w K mg base (CXe P w) 2 f fd ["text"] (spReadB P1 T1 C) := by
  refine F.okXC hc scReadList (fun vs H Q E h => ?_) (fun A outer s H vs Q E hr h => ?_)
  · obtain ⟨z, rfl, _⟩ := h
    rfl
  obtain ⟨z, rfl, hz, hP, hT, qg, qb⟩ := h
  have hu := hu_of hr
  have nb := num_body (P := P) (w := w) (base := base) T B ckN hmm
  refine' ⟨_, ?TT, ?RR⟩
  case TT =>
    refine' pss_cons ?x1 ?x2
    case x1 =>
     refine' ps_if ?x3 ?x4 ?x5
     case x3 =>
      refine' pt_not ?x6
      case x6 =>
       refine' pt_val ?x7
       case x7 =>
        refine' pe_callB cr_isi rfl T.m_isinstance (by decide +kernel) ?x8
        case x8 =>
         refine' pa_Name (pv 0) ?x9
         case x9 =>
          refine' pa_Name ?x10 ?x11
          case x10 =>
           exact (pe_bltn (v := .ty "str") rfl T.m_str (by decide +kernel) rfl)
          case x11 =>
           exact pa_nil
     case x4 =>
      refine' pss_one ?x12
      case x12 =>
       refine' ps_raise PySem.F.excBase_ValueError (by decide +kernel) PySem.F.excBase_ValueError rfl O rfl ?x13 (fun _ _ _ _ _ _ _ I hm hR => leaves_made (E := E) I hm hR)
       case x13 =>
        refine' pa_Const ?x14 ?x15
        case x14 =>
         exact pe_str
        case x15 =>
         exact pa_nil
     case x5 =>
      exact pss_nil
    case x2 =>
     refine' pss_cons ?x16 ?x17
     case x16 =>
      refine' ps_if ?x18 ?x19 ?x20
      case x18 =>
       refine' pt_cmpR op_eq (pv 0) ?x21 (nomark _)
       case x21 =>
        exact pe_str
      case x19 =>
       refine' pss_one ?x22
       case x22 =>
        refine' ps_ret ?x23
        case x23 =>
         refine' pe_lst ?x24
         case x24 =>
          exact pa_nil
      case x20 =>
       exact pss_nil
     case x17 =>
      refine' pss_cons ?x25 ?x26
      case x25 =>
       refine' ps_set (i := 1) scReadList.nd rfl (Or.inl rfl) ?x27
       case x27 =>
        refine' pe_split (pv 0) ?x28
        case x28 =>
         exact pe_str
      case x26 =>
       refine' pss_cons ?x29 ?x30
       case x29 =>
        refine' ps_if ?x31 ?x32 ?x33
        case x31 =>
         refine' pt_not ?x34
         case x34 =>
          refine' pt_val ?x35
          case x35 =>
           refine' pe_allF (x := "word") rfl T.m_all hr rfl ck B ?x36 FN hcN scIsNumber rfl nb bN mN
           case x36 =>
            exact (pig_list (pv 1))
        case x32 =>
         refine' pss_one ?x37
         case x37 =>
          refine' ps_raise PySem.F.excBase_ValueError (by decide +kernel) PySem.F.excBase_ValueError rfl O rfl ?x38 (fun _ _ _ _ _ _ _ I hm hR => leaves_made (E := E) I hm hR)
          case x38 =>
           refine' pa_Const ?x39 ?x40
           case x39 =>
            exact pe_str
           case x40 =>
            exact pa_nil
        case x33 =>
         exact pss_nil
       case x30 =>
        refine' pss_one ?x41
        case x41 =>
         refine' ps_ret ?x42
         case x42 =>
          refine' pe_lc (own := [("word", 2)]) (g := gName 2) (by rfl) scReadList.nd ?x43 (blkOk_by (own := [("word", 2)]) (N := nReadList) (sc := defScope sReadList) (by decide +kernel)) (fun _ _ _ _ _ => pg_name (i := 2) scReadList.nd rfl (Or.inl rfl)) ?x44 ?x45
          case x43 =>
           exact (pi_list (pv 1))
          case x44 =>
           intro _ _ _ _ _
           exact pts_nil
          case x45 =>
           intro _ _ _ _ _
           refine' pe_callTy call_int_text rfl T.m_int (by decide +kernel) ?x46
           case x46 =>
            refine' pa_Name (pv 2) ?x47
            case x47 =>
             exact pa_nil
  case RR =>
    refine ⟨_, rfl, _, _, _, rfl, .s_str _, _, rfl, ?_⟩
    refine iteF ?_
    refine ⟨_, rfl, rfl, _, rfl, ?_⟩
    refine ite2 (fun he => ?_) (fun he => ?_)
    · have he : z = ("-" : Str) := V.str.inj (of_decide_eq_true he)
      refine ⟨(by show 0 ≤ sizeLine; decide), fun l nl => ?_⟩
      have hn : numsAt z = [] := by unfold numsAt; rw [if_pos he]
      exact qg (by unfold goodB; rw [he]; rfl) l _ nl (by rw [hn]; exact upd_same) (same_new nl _)
    have hne : ¬ z = ("-" : Str) := fun e => he (decide_eq_true (congrArg V.str e))
    have hgb : goodB z = (wds z).all numB := by
      unfold goodB
      have : (z == ("-" : Str)) = false := by simpa using hne
      rw [this]; rfl
    have hno : numsAt z = (wds z).map numI := by unfold numsAt; rw [if_neg hne]
    refine ⟨_, rfl, ⟨_, rfl⟩, z, _, rfl, rfl, by decide +kernel, Nat.le_trans (Nat.add_le_add_right hz 2) (by decide), fun l nl => ?_⟩
    show _
    have hwl := wds_le z
    have hwn := wds_len z
    change tSeq _ _ _ _ (upd H l (.lst ((wds z).map V.str)))
    generalize jl : upd H l (.lst ((wds z).map V.str)) = H1
    have s1 := upS jl nl; have e1 := upE jl
    refine ⟨_, rfl, l, _, rfl, SqL.of e1, s1 _ _ hP, s1 _ _ hT, fun i v hi hv => ?_, (wds z).all numB, congrArg V.bl all_in, ?_⟩
    · have hv : ((wds z).map V.str)[i]? = some v := hv
      rw [List.getElem?_map] at hv
      obtain ⟨y, hy, rfl⟩ := Option.map_eq_some_iff.mp hv
      exact ⟨_, rfl, Nat.le_trans (hwl y (List.mem_of_getElem? hy)) (Nat.le_trans hz (by decide))⟩
    cases hall : (wds z).all numB with
    | false =>
      refine iteT ?_
      exact ⟨(by show 1 ≤ sizeLine; decide), qb (by rw [hgb, hall]) H1 s1⟩
    | true =>
    refine iteF ?_
    have hrd : ∀ y ∈ wds z, numB y = true := fun y hy => List.all_eq_true.mp hall y hy
    refine ⟨_, rfl, l, rfl, ⟨_, SqL.of e1⟩, fun D nD => ?_⟩
    refine lc_list (K := K) (a := l) (xs := (wds z).map V.str) (fun i HA => Same H1 HA ∧ HA D = some (.lst (((wds z).take i).map fun y => V.int (numI y)))) ?_ ?_ ?_ ?_
    · exact ⟨same_new nD _, by rw [upd_same]; rfl⟩
    · rintro i HA _ ⟨sA, _⟩
      exact SqL.of (sA _ _ e1)
    · rintro i x HA hx ⟨sA, hA⟩
      rw [List.getElem?_map] at hx
      obtain ⟨y, hi, rfl⟩ := Option.map_eq_some_iff.mp hx
      obtain ⟨r1, _, _, r2⟩ := numI_reads (hrd y (List.mem_of_getElem? hi))
      refine ⟨rfl, ?_⟩
      refine ⟨_, rfl, y, numI y, rfl, r1, Nat.le_trans r2 (by decide), ?_⟩
      refine ⟨_, hA, by rw [List.length_map, List.length_take]; exact Nat.lt_of_le_of_lt (Nat.le_trans (Nat.min_le_right _ _) hwn) (Nat.lt_of_le_of_lt (Nat.add_le_add_right hz 2) (by decide)), same_ov sA nD, ?_⟩
      rw [upd_same, List.take_add_one, hi, List.map_append]; rfl
    rintro H7 ⟨s7, h7⟩
    rw [List.length_map, List.take_length] at h7
    exact qg (by rw [hgb, hall]) D H7 (same_none s1 nD) (by rw [h7, hno, List.map_map]; rfl) (s1.trans s7)
end
end Lv
set_option Elab.async false
set_option linter.all false
set_option maxRecDepth 100000
set_option maxHeartbeats 8000000
namespace Lv
open PySem L2
section
variable {P : Program} {w : World} {K : PySem.W.Frag} {mg : Str → Option Value} {base : Heap} {f : Addr} {fd : FuncData}
abbrev sLawRight : Stmt := top 20
def nLawRight : List Str := ["text", "found", "kinds", "due", "e", "word"]
theorem scLawRight : FnScope nLawRight ["text"] (defScope sLawRight) := ⟨rfl, rfl, rfl, by decide +kernel, rfl, by decide +kernel, by decide +kernel⟩
theorem ok_right (T : Glb mg) {C CL C1 C2 C3 C4 C5 t1 t2 : Addr} {idL : String} (OL : PyProof.Rows.OwnCls "LeaveError" CL bmVE idL mg base) (u1 : Under base C CL) (m_NoText : mg "NoText" = some (.ref C)) (m_NoCommand : mg "NoCommand" = some (.ref C1)) (m_NoLetter : mg "NoLetter" = some (.ref C2)) (m_NoLetters : mg "NoLetters" = some (.ref C3)) (m_NoPlace : mg "NoPlace" = some (.ref C4)) (m_NoRow : mg "NoRow" = some (.ref C5)) (m_ValueError : mg "ValueError" = none) (xk : ExcK K C) (any_ : PySem.W.kitAny K (.ref C) [.ref C1, .ref C2, .ref C3, .ref C4, .ref C5] = some false) (one_ : PySem.W.kitOne K (.ref C) (.ref C) = some true) (val_ : PySem.W.kitOne K (.ref C) (.type "ValueError") = some true) {f_read_list : Addr} {fd_read_list : FuncData} (W_read_list : FnOk P w K mg base (CXe P w) 2 f_read_list fd_read_list ["text"] (spReadB t1 t2 C)) (mw_read_list : mg "read_list" = some (.ref f_read_list)) (kw_read_list : PySem.W.keepIn K (.ref f_read_list) = true) (bw_read_list : Binds K fd_read_list ["text"] []) (c_law_number_in : Callee P w K mg base 1 "_law_number_in" ["word"] spNumberIn) (F : Fun K "_law_right" "_law_right" sLawRight f fd) : FnOk P w K mg base CX0 4 f fd ["text"] (spRightD t1 t2) := by
  refine F.ok scLawRight (fun vs H Q E h => ?_) (fun cdv A outer s H vs Q E hr h => ?_)
  · obtain ⟨z, rfl, _⟩ := h
    rfl
  obtain ⟨z, rfl, hz, hP, hT, q⟩ := h
  have hu := hu_of hr
  refine' ⟨_, ?TT, ?RR⟩
  case TT =>
    refine' pss_cons ?x1 ?x2
    case x1 =>
     refine' ps_set (i := 1) scLawRight.nd rfl (Or.inl rfl) ?x3
     case x3 =>
      exact pe_non
    case x2 =>
     refine' pss_cons ?x4 ?x5
     case x4 =>
      refine' ps_set (i := 2) scLawRight.nd rfl (Or.inl rfl) ?x6
      case x6 =>
       refine' pe_lst ?x7
       case x7 =>
        exact pa_nil
     case x5 =>
      refine' pss_cons ?x8 ?x9
      case x8 =>
       refine' ps_tryH (ie := 4) ?x10 rfl rfl rfl OL (by decide +kernel) rfl scLawRight.nd rfl rfl ?x11
       case x10 =>
        refine' psx_one ?x12
        case x12 =>
         refine' psx_set (i := 1) W_read_list (hr.mono (by decide)) rfl mw_read_list kw_read_list bw_read_list rfl scLawRight.nd rfl rfl ?x13
         case x13 =>
          intro _
          refine' pa_Name (pv 0) ?x14
          case x14 =>
           exact pa_nil
       case x11 =>
        intro _
        refine' pss_cons ?x15 ?x16
        case x15 =>
         refine' ps_set (i := 2) scLawRight.nd rfl (Or.inl rfl) ?x17
         case x17 =>
          refine' pe_lst ?x18
          case x18 =>
           refine' pa_Call ?x19 ?x20
           case x19 =>
            refine' pe_callB (cr_isiX rfl) rfl T.m_isinstance (by decide +kernel) ?x21
            case x21 =>
             refine' pa_Name (pv 4) ?x22
             case x22 =>
              refine' pa_Name ?x23 ?x24
              case x23 =>
               exact (pe_cls rfl m_NoText)
              case x24 =>
               exact pa_nil
           case x20 =>
            refine' pa_Call ?x25 ?x26
            case x25 =>
             refine' pe_callB (cr_isiX rfl) rfl T.m_isinstance (by decide +kernel) ?x27
             case x27 =>
              refine' pa_Name (pv 4) ?x28
              case x28 =>
               refine' pa_Name ?x29 ?x30
               case x29 =>
                exact (pe_bltn (v := .ty "ValueError") rfl m_ValueError (by decide +kernel) rfl)
               case x30 =>
                exact pa_nil
            case x26 =>
             exact pa_nil
        case x16 =>
         refine' pss_one ?x31
         case x31 =>
          refine' ps_expr ?x32
          case x32 =>
           refine' pe_bmQ (K := K) rfl PySem.F.plainAttrs_list PySem.F.slot_list_append PySem.F.type_list_append mt_append (pv 2) ?x33
           case x33 =>
            refine' pa_Call ?x34 ?x35
            case x34 =>
             refine' pe_callB (cr_isiET rfl) rfl T.m_isinstance (by decide +kernel) ?x36
             case x36 =>
              refine' pa_Name (pv 4) ?x37
              case x37 =>
               refine' pa_Tuple ?x38 ?x39
               case x38 =>
                refine' pe_tup ?x40
                case x40 =>
                 refine' pa_Name ?x41 ?x42
                 case x41 =>
                  exact (pe_cls rfl m_NoCommand)
                 case x42 =>
                  refine' pa_Name ?x43 ?x44
                  case x43 =>
                   exact (pe_cls rfl m_NoLetter)
                  case x44 =>
                   refine' pa_Name ?x45 ?x46
                   case x45 =>
                    exact (pe_cls rfl m_NoLetters)
                   case x46 =>
                    refine' pa_Name ?x47 ?x48
                    case x47 =>
                     exact (pe_cls rfl m_NoPlace)
                    case x48 =>
                     refine' pa_Name ?x49 ?x50
                     case x49 =>
                      exact (pe_cls rfl m_NoRow)
                     case x50 =>
                      exact pa_nil
               case x39 =>
                exact pa_nil
            case x35 =>
             exact pa_nil
      case x9 =>
       refine' pss_cons ?x51 ?x52
       case x51 =>
        refine' ps_set (i := 3) scLawRight.nd rfl (Or.inl rfl) ?x53
        case x53 =>
         refine' pe_ifExp ?x54 ?x55 ?x56
         case x54 =>
          refine' pt_cmpR op_eq (pv 0) ?x57 (nomark _)
          case x57 =>
           exact pe_str
         case x55 =>
          refine' pe_lst ?x58
          case x58 =>
           exact pa_nil
         case x56 =>
          refine' pe_lc (own := [("word", 5)]) (g := gName 5) (by rfl) scLawRight.nd ?x59 (blkOk_by (own := [("word", 5)]) (N := nLawRight) (sc := defScope sLawRight) (by decide +kernel)) (fun _ _ _ _ _ => pg_name (i := 5) scLawRight.nd rfl (Or.inl rfl)) ?x60 ?x61
          case x59 =>
           refine' pi_list ?x62
           case x62 =>
            refine' pe_split (pv 0) ?x63
            case x63 =>
             exact pe_str
          case x60 =>
           intro _ _ _ _ _
           exact pts_nil
          case x61 =>
           intro _ _ _ _ _
           refine' pe_callC c_law_number_in hr rfl ?x64
           case x64 =>
            refine' pa_Name (pv 5) ?x65
            case x65 =>
             exact pa_nil
       case x52 =>
        refine' pss_cons ?x66 ?x67
        case x66 =>
         refine' ps_if ?x68 ?x69 ?x70
         case x68 =>
          refine' pt_cmpR op_in_seq ?x71 (pv 3) (by rfl)
          case x71 =>
           exact pe_non
         case x69 =>
          refine' pss_one ?x72
          case x72 =>
           refine' ps_ret ?x73
           case x73 =>
            refine' pe_cmpR (op_eqD hr.units) (pv 2) ?x74 (nomark _)
            case x74 =>
             refine' pe_lst ?x75
             case x75 =>
              refine' pa_Const ?x76 ?x77
              case x76 =>
               exact pe_bl
              case x77 =>
               refine' pa_Const ?x78 ?x79
               case x78 =>
                exact pe_bl
               case x79 =>
                refine' pa_Const ?x80 ?x81
                case x80 =>
                 exact pe_bl
                case x81 =>
                 exact pa_nil
         case x70 =>
          exact pss_nil
        case x67 =>
         refine' pss_one ?x82
         case x82 =>
          refine' ps_ret ?x83
          case x83 =>
           refine' pe_and ?x84 ?x85
           case x84 =>
            refine' pe_cmpR (op_eqD hr.units) (pv 2) ?x86 (nomark _)
            case x86 =>
             refine' pe_lst ?x87
             case x87 =>
              exact pa_nil
           case x85 =>
            refine' pe_one ?x88
            case x88 =>
             refine' pe_cmpR op_eq ?x89 ?x90 (nomark _)
             case x89 =>
              refine' pe_callB (cr_repr hr.gd (rep_room hr)) rfl T.m_repr (by decide +kernel) ?x91
              case x91 =>
               refine' pa_Name (pv 1) ?x92
               case x92 =>
                exact pa_nil
             case x90 =>
              refine' pe_callB (cr_repr hr.gd (rep_room hr)) rfl T.m_repr (by decide +kernel) ?x93
              case x93 =>
               refine' pa_Name (pv 3) ?x94
               case x94 =>
                exact pa_nil
  case RR =>
    refine ⟨(by show 0 ≤ sizeLine; decide), fun kd nk => ?_⟩
    generalize jk : upd H kd _ = H0
    have s0 := upS jk nk; have e0 := upE jk
    refine ⟨_, rfl, z, rfl, hz, s0 _ _ hP, s0 _ _ hT, fun hg p H1 np hp s1 => ?_, fun hb H1 s1 => ⟨C, rfl, u1, fun a na => ?_⟩⟩
    · obtain ⟨no1, no2⟩ := numsAt_ok hg
      have no2 : (numsAt z).length ≤ 40000 := by omega
      refine ⟨_, rfl, rfl, _, rfl, ?_⟩
      refine ite2 (fun he => ?_) (fun he => ?_)
      · have he : z = ("-" : Str) := V.str.inj (of_decide_eq_true he)
        have hno : numsAt z = [] := by unfold numsAt; rw [if_pos he]
        refine ⟨(by show 0 ≤ sizeLine; decide), fun D nD => ?_⟩
        generalize jD : upd H1 D _ = HD
        have sD := upS jD nD; have hD := upE jD
        have hD : HD D = some (.lst ((numsAt z).map V.int)) := by rw [hno]; exact hD
        refine ⟨_, rfl, D, _, rfl, .inl (SqL.of hD), rfl, flat_ints _, _, rfl, ?_⟩
        rw [show (if false = true then !inV V.non ((numsAt z).map V.int) else inV V.non ((numsAt z).map V.int)) = false from inV_ints _]
        refine iteF ?_
        refine ⟨_, rfl, (by show 0 ≤ sizeLine; decide), fun e1 ne1 => ?_⟩
        generalize jE : upd _ e1 _ = HE
        have sE := upS jE ne1; have eE := upE jE
        refine ⟨_, _, .lst (SqL.of (sE _ _ (sD _ _ (s1 _ _ e0)))) .nil, .lst (SqL.of eE) .nil, rfl, rfl, _, rfl, ?_⟩
        rw [show PyData.eqv (.list []) (.list []) = true from rfl]
        refine iteT ?_
        refine ⟨_, rfl, ?_⟩
        try (delta tNil; dsimp only)
        refine repr_nl2 (SqL.of (sE _ _ (sD _ _ hp))) no1 no2 ?_
        refine ⟨_, rfl, ?_⟩
        try (delta tNil; dsimp only)
        refine repr_nl2 (SqL.of (sE _ _ hD)) no1 no2 ?_
        refine ⟨rfl, ?_⟩
        rw [decide_eq_true (rfl : V.str _ = V.str _)]
        exact q HE (s0.trans (s1.trans (sD.trans sE)))
      · have hne : ¬ z = ("-" : Str) := fun e => he (decide_eq_true (congrArg V.str e))
        have hall : (wds z).all numB = true := by
          unfold goodB at hg
          have : (z == ("-" : Str)) = false := by simpa using hne
          rw [this] at hg; exact hg
        refine ⟨_, rfl, ⟨_, rfl⟩, z, _, rfl, rfl, by decide +kernel, Nat.le_trans (Nat.add_le_add_right hz 2) (by decide), fun l nl => ?_⟩
        change ∃ a, _
        generalize jl : upd _ l _ = HL
        have sl := upS jl nl; have el := upE jl
        have el : HL l = some (.lst ((wds z).map V.str)) := el
        refine ⟨l, rfl, ⟨_, SqL.of el⟩, fun D nD => ?_⟩
        have hwl := wds_le z
        have hwn := wds_len z
        refine lc_list (K := K) (a := l) (xs := (wds z).map V.str) (fun i HA => Same HL HA ∧ HA D = some (.lst (((wds z).take i).map numV))) ?_ ?_ ?_ ?_
        · exact ⟨same_new nD _, by rw [upd_same]; rfl⟩
        · rintro i HA _ ⟨sA, _⟩
          exact SqL.of (sA _ _ el)
        · rintro i x HA hx ⟨sA, hA⟩
          rw [List.getElem?_map] at hx
          obtain ⟨y, hi, rfl⟩ := Option.map_eq_some_iff.mp hx
          refine ⟨rfl, ?_⟩
          refine ⟨_, rfl, y, rfl, Nat.le_trans (hwl y (List.mem_of_getElem? hi)) hz, fun HB sB => ?_⟩
          refine ⟨_, sB _ _ hA, by rw [List.length_map, List.length_take]; exact Nat.lt_of_le_of_lt (Nat.le_trans (Nat.min_le_right _ _) hwn) (Nat.lt_of_le_of_lt (Nat.add_le_add_right hz 2) (by decide)), same_ov (sA.trans sB) nD, ?_⟩
          rw [upd_same, List.take_add_one, hi, List.map_append]; rfl
        rintro H7 ⟨s7, h7⟩
        rw [List.length_map, List.take_length] at h7
        have hD : H7 D = some (.lst ((numsAt z).map V.int)) := by
          rw [h7, numV_all _ fun y hy => List.all_eq_true.mp hall y hy]
          unfold numsAt
          rw [if_neg hne]
        have sD : Same H1 H7 := sl.trans s7
        refine ⟨_, rfl, D, _, rfl, .inl (SqL.of hD), rfl, flat_ints _, _, rfl, ?_⟩
        rw [show (if false = true then !inV V.non ((numsAt z).map V.int) else inV V.non ((numsAt z).map V.int)) = false from inV_ints _]
        refine iteF ?_
        refine ⟨_, rfl, (by show 0 ≤ sizeLine; decide), fun e1 ne1 => ?_⟩
        generalize jE : upd _ e1 _ = HE
        have sE := upS jE ne1; have eE := upE jE
        refine ⟨_, _, .lst (SqL.of (sE _ _ (sD _ _ (s1 _ _ e0)))) .nil, .lst (SqL.of eE) .nil, rfl, rfl, _, rfl, ?_⟩
        rw [show PyData.eqv (.list []) (.list []) = true from rfl]
        refine iteT ?_
        refine ⟨_, rfl, ?_⟩
        try (delta tNil; dsimp only)
        refine repr_nl2 (SqL.of (sE _ _ (sD _ _ hp))) no1 no2 ?_
        refine ⟨_, rfl, ?_⟩
        try (delta tNil; dsimp only)
        refine repr_nl2 (SqL.of (sE _ _ hD)) no1 no2 ?_
        refine ⟨rfl, ?_⟩
        rw [decide_eq_true (rfl : V.str _ = V.str _)]
        exact q HE (s0.trans (s1.trans (sD.trans sE)))
    · have hne : ¬ z = ("-" : Str) := fun e => by
        unfold goodB at hb
        rw [e] at hb; exact absurd hb (by decide)
      have hall : (wds z).all numB = false := by
        unfold goodB at hb
        have : (z == ("-" : Str)) = false := by simpa using hne
        rw [this] at hb; exact hb
      have s2 := s1.trans (same_new na (.ext (ExcO C a)))
      have ha : upd H1 a (.ext (ExcO C a)) a = some (.ext (ExcO C a)) := upd_same
      generalize upd H1 a (.ext (ExcO C a)) = H2 at s2 ha
      refine ⟨_, rfl, a, C, _, true, rfl, ha, xk, .inr ⟨C, rfl, one_⟩, ?_⟩
      refine ⟨_, rfl, a, C, _, true, rfl, ha, xk, .inl ⟨_, rfl, val_⟩, ?_⟩
      refine ⟨(by show 2 ≤ sizeLine; decide), fun k2 nk2 => ?_⟩
      generalize j3 : upd _ k2 _ = H3
      have s3 := upS j3 nk2; have e3 := upE j3
      refine ⟨_, rfl, .inl ⟨rfl, _, SqL.of e3⟩, _, rfl, (by show 5 ≤ sizeLine; decide), fun t nt => ?_⟩
      generalize j4 : upd _ t _ = H4
      have s4 := upS j4 nt; have e4 := upE j4
      refine ⟨a, C, t, [C1, C2, C3, C4, C5], false, rfl, s4 _ _ (s3 _ _ ha), xk, e4, any_, ?_⟩
      refine ⟨k2, _, _, rfl, rfl, s4 _ _ e3, by show 2 < _; decide, ?_⟩
      have e5 : upd H4 k2 (.lst ([V.bl true, V.bl true] ++ [V.bl false])) k2 = some (.lst [V.bl true, V.bl true, V.bl false]) := upd_same
      have s5 : Same H2 (upd H4 k2 (.lst ([V.bl true, V.bl true] ++ [V.bl false]))) := same_ov (s3.trans s4) nk2
      generalize upd H4 k2 (.lst ([V.bl true, V.bl true] ++ [V.bl false])) = H5 at e5 s5
      refine ⟨_, rfl, rfl, _, rfl, ?_⟩
      refine ite2 (fun he => absurd (V.str.inj (of_decide_eq_true he)) hne) (fun he => ?_)
      refine ⟨_, rfl, ⟨_, rfl⟩, z, _, rfl, rfl, by decide +kernel, Nat.le_trans (Nat.add_le_add_right hz 2) (by decide), fun l nl => ?_⟩
      change ∃ a, _
      generalize jl : upd _ l _ = HL
      have sl := upS jl nl; have el := upE jl
      have el : HL l = some (.lst ((wds z).map V.str)) := el
      refine ⟨l, rfl, ⟨_, SqL.of el⟩, fun D nD => ?_⟩
      have hwl := wds_le z
      have hwn := wds_len z
      refine lc_list (K := K) (a := l) (xs := (wds z).map V.str) (fun i HA => Same HL HA ∧ HA D = some (.lst (((wds z).take i).map numV))) ?_ ?_ ?_ ?_
      · exact ⟨same_new nD _, by rw [upd_same]; rfl⟩
      · rintro i HA _ ⟨sA, _⟩
        exact SqL.of (sA _ _ el)
      · rintro i x HA hx ⟨sA, hA⟩
        rw [List.getElem?_map] at hx
        obtain ⟨y, hi, rfl⟩ := Option.map_eq_some_iff.mp hx
        refine ⟨rfl, ?_⟩
        refine ⟨_, rfl, y, rfl, Nat.le_trans (hwl y (List.mem_of_getElem? hi)) hz, fun HB sB => ?_⟩
        refine ⟨_, sB _ _ hA, by rw [List.length_map, List.length_take]; exact Nat.lt_of_le_of_lt (Nat.le_trans (Nat.min_le_right _ _) hwn) (Nat.lt_of_le_of_lt (Nat.add_le_add_right hz 2) (by decide)), same_ov (sA.trans sB) nD, ?_⟩
        rw [upd_same, List.take_add_one, hi, List.map_append]; rfl
      rintro H7 ⟨s7, h7⟩
      rw [List.length_map, List.take_length] at h7
      refine ⟨_, rfl, D, _, rfl, .inl (SqL.of h7), rfl, flat_wds _, _, rfl, ?_⟩
      rw [show (if false = true then !inV V.non ((wds z).map numV) else inV V.non ((wds z).map numV)) = true from (inV_wds _).trans (by rw [hall]; rfl)]
      refine iteT ?_
      refine ⟨_, rfl, (by show 3 ≤ sizeLine; decide), fun e6 ne6 => ?_⟩
      generalize jE : upd _ e6 _ = HE
      have sE := upS jE ne6; have eE := upE jE
      refine ⟨_, _, .lst (SqL.of (sE _ _ (s7 _ _ (sl _ _ e5)))) (.cons (.bl true) (.cons (.bl true) (.cons (.bl false) .nil))), .lst (SqL.of eE) (.cons (.bl true) (.cons (.bl true) (.cons (.bl false) .nil))), rfl, rfl, ?_⟩
      exact q HE (s0.trans (s2.trans (s5.trans (sl.trans (s7.trans sE)))))
end
end Lv
set_option Elab.async false
set_option linter.all false
set_option maxRecDepth 100000
set_option maxHeartbeats 8000000
namespace Lv
open PySem L2
section
variable {P : Program} {w : World} {K : PySem.W.Frag} {mg : Str → Option Value} {base : Heap} {f : Addr} {fd : FuncData}
abbrev sLawSpoilt : Stmt := top 18
def nLawSpoilt : List Str := ["deck", "text", "way", "at", "sign", "words"]
theorem scLawSpoilt : FnScope nLawSpoilt ["deck", "text"] (defScope sLawSpoilt) := ⟨rfl, rfl, rfl, by decide +kernel, rfl, by decide +kernel, by decide +kernel⟩
theorem ok_spoilt (T : Glb mg) (c_law_take : Callee P w K mg base 1 "_law_take" ["deck", "many"] spTakeD) (c_law_bad : Callee P w K mg base 2 "_law_bad" ["deck"] spBadD) (F : Fun K "_law_spoilt" "_law_spoilt" sLawSpoilt f fd) : FnOk P w K mg base CX0 3 f fd ["deck", "text"] spSpoiltD := by
  refine F.ok scLawSpoilt (fun vs H Q E h => ?_) (fun cdv A outer s H vs Q E hr h => ?_)
  · obtain ⟨p, y, N, rfl, _⟩ := h
    rfl
  obtain ⟨p, y, N, rfl, hy, hD, hN, q⟩ := h
  have hu := hu_of hr
  refine' ⟨_, ?TT, ?RR⟩
  case TT =>
    refine' pss_cons ?x117 ?x118
    case x117 =>
     refine' ps_set (i := 2) scLawSpoilt.nd rfl (Or.inl rfl) ?x119
     case x119 =>
      refine' pe_callC c_law_take hr rfl ?x120
      case x120 =>
       refine' pa_Name (pv 0) ?x121
       case x121 =>
        refine' pa_Const ?x122 ?x123
        case x122 =>
         exact pe_int
        case x123 =>
         exact pa_nil
    case x118 =>
     refine' pss_cons ?x124 ?x125
     case x124 =>
      refine' ps_set (i := 3) scLawSpoilt.nd rfl (Or.inl rfl) ?x126
      case x126 =>
       refine' pe_callC c_law_take hr rfl ?x127
       case x127 =>
        refine' pa_Name (pv 0) ?x128
        case x128 =>
         refine' pa_BinOp ?x129 ?x130
         case x129 =>
          refine' pe_op op_add ?x131 ?x132
          case x131 =>
           refine' pe_callB call_len_str rfl T.m_len PySem.boot_len ?x133
           case x133 =>
            refine' pa_Name (pv 1) ?x134
            case x134 =>
             exact pa_nil
          case x132 =>
           exact pe_int
         case x130 =>
          exact pa_nil
     case x125 =>
      refine' pss_cons ?x135 ?x136
      case x135 =>
       refine' ps_set (i := 4) scLawSpoilt.nd rfl (Or.inl rfl) ?x137
       case x137 =>
        refine' pe_ix ix_str ?x138 ?x139 (fun _ _ => rfl)
        case x138 =>
         exact pe_str
        case x139 =>
         refine' pe_callC c_law_take hr rfl ?x140
         case x140 =>
          refine' pa_Name (pv 0) ?x141
          case x141 =>
           refine' pa_Const ?x142 ?x143
           case x142 =>
            exact pe_int
           case x143 =>
            exact pa_nil
      case x136 =>
       refine' pss_cons ?x144 ?x145
       case x144 =>
        refine' ps_if ?x146 ?x147 ?x148
        case x146 =>
         refine' pt_cmpR op_eq (pv 2) ?x149 (nomark _)
         case x149 =>
          exact pe_int
        case x147 =>
         refine' pss_one ?x150
         case x150 =>
          refine' ps_ret ?x151
          case x151 =>
           refine' pe_op op_add_str ?x152 ?x153
           case x152 =>
            exact (pe_slice sl_str (pv 1) po_none (po_some (pv 3)))
           case x153 =>
            exact (pe_slice sl_str (pv 1) (po_some (pe_op op_add (pv 3) pe_int)) po_none)
        case x148 =>
         exact pss_nil
       case x145 =>
        refine' pss_cons ?x154 ?x155
        case x154 =>
         refine' ps_if ?x156 ?x157 ?x158
         case x156 =>
          refine' pt_cmpR op_lt (pv 2) ?x159 (nomark _)
          case x159 =>
           exact pe_int
         case x157 =>
          refine' pss_one ?x160
          case x160 =>
           refine' ps_ret ?x161
           case x161 =>
            refine' pe_op op_add_str ?x162 ?x163
            case x162 =>
             refine' pe_op op_add_str ?x164 (pv 4)
             case x164 =>
              exact (pe_slice sl_str (pv 1) po_none (po_some (pv 3)))
            case x163 =>
             exact (pe_slice sl_str (pv 1) (po_some (pe_op op_sub (pe_op op_add (pv 3) (pv 2)) pe_int)) po_none)
         case x158 =>
          exact pss_nil
        case x155 =>
         refine' pss_cons ?x165 ?x166
         case x165 =>
          refine' ps_set (i := 5) scLawSpoilt.nd rfl (Or.inl rfl) ?x167
          case x167 =>
           refine' pe_split (pv 1) ?x168
           case x168 =>
            exact pe_str
         case x166 =>
          refine' pss_cons ?x169 ?x170
          case x169 =>
           refine' ps_set (i := 3) scLawSpoilt.nd rfl (Or.inl rfl) ?x171
           case x171 =>
            refine' pe_callC c_law_take hr rfl ?x172
            case x172 =>
             refine' pa_Name (pv 0) ?x173
             case x173 =>
              refine' pa_BinOp ?x174 ?x175
              case x174 =>
               refine' pe_op op_add ?x176 ?x177
               case x176 =>
                refine' pe_callB call_len_seq rfl T.m_len PySem.boot_len ?x178
                case x178 =>
                 refine' pa_Name (pv 5) ?x179
                 case x179 =>
                  exact pa_nil
               case x177 =>
                exact pe_int
              case x175 =>
               exact pa_nil
          case x170 =>
           refine' pss_one ?x180
           case x180 =>
            refine' ps_ret ?x181
            case x181 =>
             refine' pe_join ?x182 ?x183
             case x182 =>
              exact pe_str
             case x183 =>
              refine' pe_op op_cat ?x184 ?x185
              case x184 =>
               refine' pe_op op_cat ?x186 ?x187
               case x186 =>
                exact (pe_slice sl_list (pv 5) po_none (po_some (pv 3)))
               case x187 =>
                refine' pe_lst ?x188
                case x188 =>
                 refine' pa_Call ?x189 ?x190
                 case x189 =>
                  refine' pe_callC c_law_bad hr rfl ?x191
                  case x191 =>
                   refine' pa_Name (pv 0) ?x192
                   case x192 =>
                    exact pa_nil
                 case x190 =>
                  exact pa_nil
              case x185 =>
               exact (pe_slice sl_list (pv 5) (po_some (pe_op op_sub (pe_op op_add (pv 3) (pv 2)) pe_int)) po_none)
  case RR =>
    have hys : y.length ≤ sizeLine := Nat.le_trans hy (by decide)
    refine ⟨_, rfl, p, 5, N, rfl, hD, by omega, by decide, by decide, fun w0 H1 w00 w01 hD1 k1 => ?_⟩
    refine ⟨_, rfl, _, rfl, y, rfl, hys, ?_⟩
    refine ⟨_, _, rfl, rfl, ?_⟩
    refine ⟨p, _, _, rfl, hD1, by omega, by omega, by omega, fun at_ H2 a0 a1 hD2 k2 => ?_⟩
    generalize hsg : Str.ofString " 0129-_a\n" = sg0
    have lsg : sg0.length = 9 := by rw [← hsg]; decide +kernel
    clear hsg
    refine ⟨_, rfl, p, 9, _, rfl, hD2, by omega, by decide, by decide, fun g H3 g0 g1 hD3 k3 => ?_⟩
    obtain ⟨c, hc⟩ := oddAt (z := sg0) g0 (by omega)
    refine ⟨sg0, g, c, rfl, rfl, by rw [lsg]; decide, hc, ?_⟩
    have k03 : Kp p H H3 := k1.trans (k2.trans k3)
    have big : ∀ {n : Nat}, n ≤ 30000 → n ≤ sizeLine := fun h => Nat.le_trans h (by decide)
    have cl := fun lo hi => cutS_length y lo hi
    have sl1 : (⟨#[c]⟩ : Str).length = 1 := rfl
    refine ⟨_, rfl, rfl, _, rfl, ?_⟩
    refine ite2 (fun _ => ?_) (fun _ => ?_)
    · refine ⟨_, rfl, _, rfl, _, rfl, y, rfl, hys, ?_⟩
      refine ⟨_, rfl, _, rfl, _, _, rfl, rfl, _, rfl, y, rfl, hys, ?_⟩
      have c1 := cl none (some at_)
      have c2 := cl (some (at_ + 1)) none
      refine ⟨_, _, rfl, rfl, big (by omega), ?_⟩
      refine q _ H3 ?_ k03
      rw [str_len_add]; omega
    refine ⟨_, rfl, _, _, rfl, rfl, _, rfl, ?_⟩
    refine ite2 (fun _ => ?_) (fun hw => ?_)
    · refine ⟨_, rfl, _, rfl, _, rfl, y, rfl, hys, ?_⟩
      have c1 := cl none (some at_)
      have c2 := cl (some (at_ + w0 - 1)) none
      refine ⟨_, rfl, ?_⟩
      refine ⟨_, _, rfl, rfl, big (by rw [sl1]; omega), ?_⟩
      refine ⟨_, rfl, _, rfl, _, rfl, ?_⟩
      refine ⟨_, _, rfl, rfl, _, _, rfl, rfl, _, rfl, y, rfl, hys, ?_⟩
      have c3 : (cutS y none (some at_) ++ (⟨#[c]⟩ : Str)).length ≤ 7001 := by rw [str_len_add, sl1]; omega
      refine ⟨_, _, rfl, rfl, big (by omega), ?_⟩
      refine q _ H3 ?_ k03
      rw [str_len_add]; omega
    have wl := wds_len y
    have wsum := wds_sum y
    refine ⟨_, rfl, ⟨_, rfl⟩, y, _, rfl, rfl, by decide +kernel, Nat.le_trans (Nat.add_le_add_right hy 2) (by decide), fun l nl => ?_⟩
    generalize j4 : upd _ l _ = H4
    have s4 := upS j4 nl; have e4 := upE j4
    have e4 : H4 l = some (.lst ((wds y).map V.str)) := e4
    have nlp : l ≠ p := hD3.ne nl
    have wll : ((wds y).map V.str).length ≤ 7002 := by rw [List.length_map]; omega
    refine ⟨_, rfl, _, rfl, l, (wds y).map V.str, rfl, .inl (SqL.of e4), ?_⟩
    refine ⟨_, _, rfl, rfl, ?_⟩
    refine ⟨p, _, _, rfl, hD3.same s4, by omega, by omega, by omega, fun at2 H5 b0 b1 hD5 k5 => ?_⟩
    have e5 := k5 _ _ e4 nlp
    obtain ⟨u1, eu1, lu1, su1⟩ := cutV_strs (wds y) none (some at2)
    obtain ⟨u2, eu2, lu2, su2⟩ := cutV_strs (wds y) (some (at2 + w0 - 3)) none
    refine ⟨⟨_, rfl⟩, _, rfl, _, rfl, _, rfl, l, _, rfl, SqL.of e5, fun m1 nm1 => ?_⟩
    rw [eu1]
    generalize j6 : upd _ m1 _ = H6
    have s6 := upS j6 nm1; have e6 := upE j6
    have n1p : m1 ≠ p := hD5.ne nm1
    refine ⟨_, rfl, p, _, rfl, hD5.same s6, by omega, fun bz H7 lb hD7 k7 => ?_⟩
    refine ⟨(by show 1 ≤ sizeLine; decide), fun m2 nm2 => ?_⟩
    generalize j8 : upd _ m2 _ = H8
    have s8 := upS j8 nm2; have e8 := upE j8
    have e61 := s8 _ _ (k7 _ _ e6 n1p)
    refine ⟨m1, m2, _, _, rfl, rfl, e61, e8, Nat.le_trans (m := 7003) (by rw [List.length_map]; show _ + 1 ≤ _; omega) (by decide), fun m3 nm3 => ?_⟩
    generalize j9 : upd _ m3 _ = H9
    have s9 := upS j9 nm3; have e9 := upE j9
    have e59 := s9 _ _ (s8 _ _ (k7 _ _ (s6 _ _ e5) nlp))
    refine ⟨_, rfl, _, rfl, _, rfl, ?_⟩
    refine ⟨_, _, rfl, rfl, _, _, rfl, rfl, _, rfl, l, _, rfl, SqL.of e59, fun m4 nm4 => ?_⟩
    rw [eu2]
    generalize jA : upd _ m4 _ = HA
    have sA := upS jA nm4; have eA := upE jA
    refine ⟨m3, m4, _, _, rfl, rfl, sA _ _ e9, eA, Nat.le_trans (m := 14005) (by rw [List.length_append, List.length_map, List.length_map]; show _ + 1 + _ ≤ _; omega) (by decide), fun m5 nm5 => ?_⟩
    generalize jB : upd _ m5 _ = HB
    have sB := upS jB nm5; have eB := upE jB
    have e1 : (" " : Str).length = 1 := by decide +kernel
    have hsum : ((u1 ++ [bz] ++ u2).map (·.length)).sum ≤ 15000 := by
      rw [List.map_append, List.map_append, List.sum_append, List.sum_append]
      show _ + (bz.length + 0) + _ ≤ _
      omega
    have hcount : (u1 ++ [bz] ++ u2).length ≤ 14005 := by
      rw [List.length_append, List.length_append]
      show _ + 1 + _ ≤ _
      omega
    have eB' : HB m5 = some (.lst ((u1 ++ [bz] ++ u2).map V.str)) := by
      rw [eB, List.map_append, List.map_append]; rfl
    refine ⟨_, m5, u1 ++ [bz] ++ u2, rfl, rfl, .inl (SqL.of eB'), by rw [e1]; omega, ?_⟩
    refine q _ HB ?_ ?_
    · have := join_len (" " : Str) (u1 ++ [bz] ++ u2)
      rw [e1] at this
      omega
    · exact k03.trans ((s4.kp p).trans (k5.trans ((s6.kp p).trans (k7.trans ((s8.trans (s9.trans (sA.trans sB))).kp p)))))
end
end Lv
set_option Elab.async false
set_option linter.all false
set_option maxRecDepth 100000
set_option maxHeartbeats 8000000
namespace Lv
open PySem L2
section
variable {P : Program} {w : World} {K : PySem.W.Frag} {mg : Str → Option Value} {base : Heap} {f : Addr} {fd : FuncData}
abbrev sLawBad : Stmt := top 17
def nLawBad : List Str := ["deck", "some", "odd"]
theorem scLawBad : FnScope nLawBad ["deck"] (defScope sLawBad) := ⟨rfl, rfl, rfl, by decide +kernel, rfl, by decide +kernel, by decide +kernel⟩
theorem ok_bad (T : Glb mg) (c_law_take : Callee P w K mg base 1 "_law_take" ["deck", "many"] spTakeD) (F : Fun K "_law_bad" "_law_bad" sLawBad f fd) : FnOk P w K mg base CX0 2 f fd ["deck"] spBadD := by
  refine F.ok scLawBad (fun vs H Q E h => ?_) (fun cdv A outer s H vs Q E hr h => ?_)
  · obtain ⟨p, N, rfl, _⟩ := h
    rfl
  obtain ⟨p, N, rfl, hD, hN, q⟩ := h
  have hu := hu_of hr
  refine' ⟨_, ?TT, ?RR⟩
  case TT =>
    refine' pss_cons ?x1 ?x2
    case x1 =>
     show PS _ (.Assign [.Name _ _] (.List _ _) _) _
     refine' @ps_setL _ 1 _ _ _ _ _ _ ?a ?b ?c ?x3 ?e
     case a => exact scLawBad.nd
     case b => rfl
     case c => exact Or.inl rfl
     case e => exact Or.inl rfl
     case x3 =>
      refine' pe_lst ?x4
      case x4 =>
       refine' pa_Const ?x5 ?x6
       case x5 =>
        exact pe_str
       case x6 =>
        refine' pa_Const ?x7 ?x8
        case x7 =>
         exact pe_str
        case x8 =>
         refine' pa_Const ?x9 ?x10
         case x9 =>
          exact pe_str
         case x10 =>
          refine' pa_Const ?x11 ?x12
          case x11 =>
           exact pe_str
          case x12 =>
           refine' pa_Const ?x13 ?x14
           case x13 =>
            exact pe_str
           case x14 =>
            refine' pa_Const ?x15 ?x16
            case x15 =>
             exact pe_str
            case x16 =>
             refine' pa_Const ?x17 ?x18
             case x17 =>
              exact pe_str
             case x18 =>
              refine' pa_Const ?x19 ?x20
              case x19 =>
               exact pe_str
              case x20 =>
               refine' pa_Const ?x21 ?x22
               case x21 =>
                exact pe_str
               case x22 =>
                refine' pa_Const ?x23 ?x24
                case x23 =>
                 exact pe_str
                case x24 =>
                 refine' pa_Const ?x25 ?x26
                 case x25 =>
                  exact pe_str
                 case x26 =>
                  refine' pa_Const ?x27 ?x28
                  case x27 =>
                   exact pe_str
                  case x28 =>
                   refine' pa_Const ?x29 ?x30
                   case x29 =>
                    exact pe_str
                   case x30 =>
                    refine' pa_Const ?x31 ?x32
                    case x31 =>
                     exact pe_str
                    case x32 =>
                     exact pa_nil
    case x2 =>
     refine' pss_cons ?x33 ?x34
     case x33 =>
      refine' ps_set (i := 1) scLawBad.nd rfl (Or.inl rfl) ?x35
      case x35 =>
       refine' pe_op op_cat (pv 1) ?x36
       case x36 =>
        refine' pe_lst ?x37
        case x37 =>
         refine' pa_Const ?x38 ?x39
         case x38 =>
          exact pe_str
         case x39 =>
          refine' pa_BinOp ?x40 ?x41
          case x40 =>
           refine' pe_op op_mulS ?x42 ?x43
           case x42 =>
            exact pe_str
           case x43 =>
            exact pe_int
          case x41 =>
           refine' pa_BinOp ?x44 ?x45
           case x44 =>
            refine' pe_op op_mulS ?x46 ?x47
            case x46 =>
             exact pe_str
            case x47 =>
             exact pe_int
           case x45 =>
            refine' pa_BinOp ?x48 ?x49
            case x48 =>
             refine' pe_op op_add_str ?x50 ?x51
             case x50 =>
              exact pe_str
             case x51 =>
              refine' pe_op op_mulS ?x52 ?x53
              case x52 =>
               exact pe_str
              case x53 =>
               exact pe_int
            case x49 =>
             refine' pa_BinOp ?x54 ?x55
             case x54 =>
              refine' pe_op op_add_str ?x56 ?x57
              case x56 =>
               exact pe_str
              case x57 =>
               refine' pe_op op_mulS ?x58 ?x59
               case x58 =>
                exact pe_str
               case x59 =>
                exact pe_int
             case x55 =>
              refine' pa_BinOp ?x60 ?x61
              case x60 =>
               refine' pe_op op_mulS ?x62 ?x63
               case x62 =>
                exact pe_str
               case x63 =>
                exact pe_int
              case x61 =>
               refine' pa_BinOp ?x64 ?x65
               case x64 =>
                refine' pe_op op_mulS ?x66 ?x67
                case x66 =>
                 exact pe_str
                case x67 =>
                 exact pe_int
               case x65 =>
                exact pa_nil
     case x34 =>
      refine' pss_cons ?x68 ?x69
      case x68 =>
       refine' ps_set (i := 1) scLawBad.nd rfl (Or.inl rfl) ?x70
       case x70 =>
        refine' pe_op op_cat (pv 1) ?x71
        case x71 =>
         refine' pe_lst ?x72
         case x72 =>
          refine' pa_Const ?x73 ?x74
          case x73 =>
           exact pe_str
          case x74 =>
           refine' pa_Const ?x75 ?x76
           case x75 =>
            exact pe_str
           case x76 =>
            exact pa_nil
      case x69 =>
       refine' pss_cons ?x77 ?x78
       case x77 =>
        refine' ps_set (i := 2) scLawBad.nd rfl (Or.inl rfl) ?x79
        case x79 =>
         exact pe_str
       case x78 =>
        refine' pss_cons ?x80 ?x81
        case x80 =>
         refine' ps_expr ?x82
         case x82 =>
          refine' pe_bm PySem.F.plainAttrs_list PySem.F.slot_list_append PySem.F.type_list_append mt_append (pv 1) ?x83
          case x83 =>
           refine' pa_Subscript ?x84 ?x85
           case x84 =>
            refine' pe_ix ix_str (pv 2) ?x86 (fun _ _ => rfl)
            case x86 =>
             refine' pe_callC c_law_take hr rfl ?x87
             case x87 =>
              refine' pa_Name (pv 0) ?x88
              case x88 =>
               refine' pa_Call ?x89 ?x90
               case x89 =>
                refine' pe_callB call_len_str rfl T.m_len PySem.boot_len ?x91
                case x91 =>
                 refine' pa_Name (pv 2) ?x92
                 case x92 =>
                  exact pa_nil
               case x90 =>
                exact pa_nil
           case x85 =>
            exact pa_nil
        case x81 =>
         refine' pss_cons ?x93 ?x94
         case x93 =>
          refine' ps_expr ?x95
          case x95 =>
           refine' pe_bm PySem.F.plainAttrs_list PySem.F.slot_list_append PySem.F.type_list_append mt_append (pv 1) ?x96
           case x96 =>
            refine' pa_BinOp ?x97 ?x98
            case x97 =>
             refine' pe_op op_add_str ?x99 ?x100
             case x99 =>
              exact pe_str
             case x100 =>
              refine' pe_ix ix_str (pv 2) ?x101 (fun _ _ => rfl)
              case x101 =>
               refine' pe_callC c_law_take hr rfl ?x102
               case x102 =>
                refine' pa_Name (pv 0) ?x103
                case x103 =>
                 refine' pa_Call ?x104 ?x105
                 case x104 =>
                  refine' pe_callB call_len_str rfl T.m_len PySem.boot_len ?x106
                  case x106 =>
                   refine' pa_Name (pv 2) ?x107
                   case x107 =>
                    exact pa_nil
                 case x105 =>
                  exact pa_nil
            case x98 =>
             exact pa_nil
         case x94 =>
          refine' pss_one ?x108
          case x108 =>
           refine' ps_ret ?x109
           case x109 =>
            refine' pe_ix ix_list (pv 1) ?x110 (fun _ _ => rfl)
            case x110 =>
             refine' pe_callC c_law_take hr rfl ?x111
             case x111 =>
              refine' pa_Name (pv 0) ?x112
              case x112 =>
               refine' pa_Call ?x113 ?x114
               case x113 =>
                refine' pe_callB call_len_seq rfl T.m_len PySem.boot_len ?x115
                case x115 =>
                 refine' pa_Name (pv 1) ?x116
                 case x116 =>
                  exact pa_nil
               case x114 =>
                exact pa_nil
  case RR =>
    refine ⟨(by show 14 ≤ sizeLine; decide), fun l1 nl1 => ?_⟩
    generalize hx1 : ([V.str (Str.ofString ""), _, _, _, _, _, _, _, _, _, _, _, _, _] : List V) = x1
    have a1 : AllS x1 14 := by rw [← hx1]; exact ⟨by decide, by decide +kernel⟩
    clear hx1
    generalize j1 : upd _ l1 _ = H1
    have s1 := upS j1 nl1; have e1 := upE j1
    refine ⟨_, rfl, _, _, rfl, rfl, by decide, by decide, by decide +kernel, ?_⟩
    refine ⟨_, _, rfl, rfl, by decide, by decide, by decide +kernel, ?_⟩
    refine ⟨_, _, rfl, rfl, by decide, by decide, by decide +kernel, ?_⟩
    refine ⟨_, _, rfl, rfl, by decide +kernel, ?_⟩
    refine ⟨_, _, rfl, rfl, by decide, by decide, by decide +kernel, ?_⟩
    refine ⟨_, _, rfl, rfl, by decide +kernel, ?_⟩
    refine ⟨_, _, rfl, rfl, by decide, by decide, by decide +kernel, ?_⟩
    refine ⟨_, _, rfl, rfl, by decide, by decide, by decide +kernel, ?_⟩
    refine ⟨(by show 7 ≤ sizeLine; decide), fun l2 nl2 => ?_⟩
    generalize hx2 : ([V.str (Str.ofString "- 1"), _, _, _, _, _, _] : List V) = x2
    have a2 : AllS x2 7 := by rw [← hx2]; exact ⟨by decide, by decide +kernel⟩
    clear hx2
    generalize j2 : upd _ l2 _ = H2
    have s2 := upS j2 nl2; have e2 := upE j2
    have a3 := a1.cat a2
    refine ⟨l1, l2, _, _, rfl, rfl, s2 _ _ e1, e2, by rw [← List.length_append]; exact Nat.le_trans a3.1 (by decide), fun l3 nl3 => ?_⟩
    generalize j3 : upd _ l3 _ = H3
    have s3 := upS j3 nl3; have e3 := upE j3
    generalize x1 ++ x2 = x3 at a3 e3
    refine ⟨_, rfl, (by show 2 ≤ sizeLine; decide), fun l4 nl4 => ?_⟩
    generalize hx4 : ([V.str (Str.ofString "1,2"), _] : List V) = x4
    have a4 : AllS x4 2 := by rw [← hx4]; exact ⟨by decide, by decide +kernel⟩
    clear hx4
    generalize j4 : upd _ l4 _ = H4
    have s4 := upS j4 nl4; have e4 := upE j4
    have a5 := a3.cat a4
    refine ⟨l3, l4, _, _, rfl, rfl, s4 _ _ e3, e4, by rw [← List.length_append]; exact Nat.le_trans a5.1 (by decide), fun l5 nl5 => ?_⟩
    generalize j5 : upd _ l5 _ = H5
    have s5 := upS j5 nl5; have e5 := upE j5
    generalize x3 ++ x4 = x5 at a5 e5
    have u4 : Same H H4 := s1.trans (s2.trans (s3.trans s4))
    have u5 : Same H H5 := u4.trans s5
    have nl5H : H l5 = none := same_none u4 nl5
    have nl5p : l5 ≠ p := hD.ne nl5H
    have hD5 := hD.same u5
    generalize ho : Str.ofString "!#$'()*./:;<=>?@BMXY[]^`{|}~abz" = odd
    have lo : odd.length = 31 := by rw [← ho]; decide +kernel
    clear ho
    refine ⟨_, rfl, .inl ⟨rfl, _, SqL.of e5⟩, _, rfl, _, rfl, _, rfl, odd, rfl, by rw [lo]; decide, ?_⟩
    refine ⟨p, _, N, rfl, hD5, by omega, by rw [lo]; decide, by rw [lo]; decide, fun v H6 v0 v1 hD6 k6 => ?_⟩
    obtain ⟨c, hc⟩ := oddAt v0 v1
    refine ⟨odd, v, c, rfl, rfl, by rw [lo]; decide, hc, ?_⟩
    have e6 := k6 _ _ e5 nl5p
    refine ⟨l5, _, _, rfl, rfl, e6, Nat.lt_of_le_of_lt a5.1 (by decide), ?_⟩
    have a7 : AllS (x5 ++ [V.str ⟨#[c]⟩]) 24 := a5.cat (m := 1) ⟨Nat.le_refl 1, rfl⟩
    have hD7 := hD6.upd nl5p.symm (.lst (x5 ++ [V.str ⟨#[c]⟩]))
    have e7 : upd H6 l5 (.lst (x5 ++ [V.str ⟨#[c]⟩])) l5 = some (.lst (x5 ++ [V.str ⟨#[c]⟩])) := upd_same
    have k7 : Kp p H (upd H6 l5 (.lst (x5 ++ [V.str ⟨#[c]⟩]))) := fun b o e ne => by
      rw [upd_ne (fun z => by rw [z, nl5H] at e; cases e)]
      exact k6 _ _ (u5 _ _ e) ne
    generalize upd H6 l5 (.lst (x5 ++ [V.str ⟨#[c]⟩])) = H7 at hD7 e7 k7
    generalize x5 ++ [V.str ⟨#[c]⟩] = x7 at a7 e7
    refine ⟨_, rfl, .inl ⟨rfl, _, SqL.of e7⟩, _, rfl, _, rfl, _, rfl, odd, rfl, by rw [lo]; decide, ?_⟩
    refine ⟨p, _, _, rfl, hD7, by omega, by rw [lo]; decide, by rw [lo]; decide, fun v2 H8 v20 v21 hD8 k8 => ?_⟩
    obtain ⟨c2, hc2⟩ := oddAt v20 v21
    refine ⟨odd, v2, c2, rfl, rfl, by rw [lo]; decide, hc2, ?_⟩
    refine ⟨_, _, rfl, rfl, by show 1 + 1 ≤ sizeLine; decide, ?_⟩
    have e8 := k8 _ _ e7 nl5p
    refine ⟨l5, _, _, rfl, rfl, e8, Nat.lt_of_le_of_lt a7.1 (by decide), ?_⟩
    generalize hw : (Str.ofString "1" ++ ⟨#[c2]⟩ : Str) = w9
    have lw : w9.length ≤ 1000 := by rw [← hw]; show 1 + 1 ≤ 1000; decide
    have a9 : AllS (x7 ++ [V.str w9]) 25 := a7.cat (m := 1) ⟨Nat.le_refl 1, by show (decide (w9.length ≤ 1000) && true) = true; rw [decide_eq_true lw]; rfl⟩
    have hD9 := hD8.upd nl5p.symm (.lst (x7 ++ [V.str w9]))
    have e9 : upd H8 l5 (.lst (x7 ++ [V.str w9])) l5 = some (.lst (x7 ++ [V.str w9])) := upd_same
    have p9 : 0 < (x7 ++ [V.str w9]).length := by rw [List.length_append]; show 0 < _ + 1; omega
    have k9 : Kp p H (upd H8 l5 (.lst (x7 ++ [V.str w9]))) := fun b o e ne => by
      rw [upd_ne (fun z => by rw [z, nl5H] at e; cases e)]
      exact k8 _ _ (k7 _ _ e ne) ne
    generalize upd H8 l5 (.lst (x7 ++ [V.str w9])) = H9 at hD9 e9 k9
    generalize x7 ++ [V.str w9] = x9 at a9 e9 p9
    have l9 := a9.1
    refine ⟨_, rfl, _, rfl, _, rfl, l5, x9, rfl, .inl (SqL.of e9), ?_⟩
    refine ⟨p, _, _, rfl, hD9, by omega, by omega, by omega, fun v3 HA v30 v31 hDA kA => ?_⟩
    obtain ⟨y, hy, ly⟩ := a9.at v30 v31
    refine ⟨l5, x9, v3, _, rfl, rfl, SqL.of (kA _ _ e9 nl5p), hy, ?_⟩
    exact q y HA ly (hDA.mono (by omega)) (k9.trans kA)
end
end Lv
set_option Elab.async false
set_option linter.all false
set_option maxRecDepth 100000
set_option maxHeartbeats 8000000
namespace Lv
open PySem L2
section
variable {P : Program} {w : World} {K : PySem.W.Frag} {mg : Str → Option Value} {base : Heap} {f : Addr} {fd : FuncData}
abbrev sLawNumberIn : Stmt := top 19
def nLawNumberIn : List Str := ["word", "figure"]
theorem scLawNumberIn : FnScope nLawNumberIn ["word"] (defScope sLawNumberIn) := ⟨rfl, rfl, rfl, by decide +kernel, rfl, by decide +kernel, by decide +kernel⟩
theorem ok_numberIn (T : Glb mg)  (F : Fun K "_law_number_in" "_law_number_in" sLawNumberIn f fd) : FnOk P w K mg base CX0 1 f fd ["word"] spNumberIn := by
  refine F.ok scLawNumberIn (fun vs H Q E h => ?_) (fun cdv A outer s H vs Q E hr h => ?_)
  · obtain ⟨z, rfl, _⟩ := h
    rfl
  obtain ⟨z, rfl, hz, q⟩ := h
  have hu := hu_of hr
  refine' ⟨_, ?TT, ?RR⟩
  case TT =>
    refine' pss_cons ?x1 ?x2
    case x1 =>
     refine' ps_if ?x3 ?x4 ?x5
     case x3 =>
      refine' PW.pt ?x6
      case x6 =>
       refine' pw_or ?x7 ?x8
       case x7 =>
        refine' pt_not ?x9
        case x9 =>
         refine' pt_chain op_le op_le ?x10 ?x11 ?x12
         case x10 =>
          exact pe_int
         case x11 =>
          refine' pe_callB call_len_str rfl T.m_len PySem.boot_len ?x13
          case x13 =>
           refine' pa_Name (pv 0) ?x14
           case x14 =>
            exact pa_nil
         case x12 =>
          exact pe_int
       case x8 =>
        refine' pw_or1 ?x15
        case x15 =>
         refine' PW.pt ?x16
         case x16 =>
          refine' pw_and ?x17 ?x18
          case x17 =>
           refine' pt_cmpR op_eq ?x19 ?x20 (nomark _)
           case x19 =>
            refine' pe_ix ix_str (pv 0) ?x21 (fun _ _ => rfl)
            case x21 =>
             exact pe_int
           case x20 =>
            exact pe_str
          case x18 =>
           refine' pw_and1 ?x22
           case x22 =>
            refine' pt_cmpR op_ne (pv 0) ?x23 (nomark _)
            case x23 =>
             exact pe_str
     case x4 =>
      refine' pss_one ?x24
      case x24 =>
       refine' ps_ret ?x25
       case x25 =>
        exact pe_non
     case x5 =>
      exact pss_nil
    case x2 =>
     refine' pss_one ?x26
     case x26 =>
      refine' ps_ret ?x27
      case x27 =>
       refine' pe_ifExp ?x28 ?x29 ?x30
       case x28 =>
        refine' pt_val ?x31
        case x31 =>
         refine' pe_callB (cr_all rfl) rfl T.m_all (by decide +kernel) ?x32
         case x32 =>
          refine' pa_ListComp ?x33 ?x34
          case x33 =>
           refine' pe_lc (own := [("figure", 1)]) (g := gName 1) (by rfl) scLawNumberIn.nd ?x35 (blkOk_by (own := [("figure", 1)]) (N := nLawNumberIn) (sc := defScope sLawNumberIn) (by decide +kernel)) (fun _ _ _ _ _ => pg_name (i := 1) scLawNumberIn.nd rfl (Or.inl rfl)) ?x36 ?x37
           case x35 =>
            exact (pi_str (pv 0))
           case x36 =>
            intro _ _ _ _ _
            exact pts_nil
           case x37 =>
            intro _ _ _ _ _
            refine' pe_cmpR op_in_sign (pv 1) ?x38 (by rfl)
            case x38 =>
             exact pe_str
          case x34 =>
           exact pa_nil
       case x29 =>
        refine' pe_callTy call_int_text rfl T.m_int (by decide +kernel) ?x39
        case x39 =>
         refine' pa_Name (pv 0) ?x40
         case x40 =>
          exact pa_nil
       case x30 =>
        exact pe_non
  case RR =>
    have el : z.length = z.cps.toList.length := len_cps z
    have hzs : z.length ≤ sizeLine := Nat.le_trans hz (by decide)
    have bad : numB z = false → Q .non H := fun e => by
      have := q H (Same.refl _)
      rw [numV, e] at this
      exact this
    refine ⟨_, rfl, z, rfl, hzs, ?_⟩
    refine ⟨_, _, rfl, rfl, _, rfl, ?_⟩
    by_cases h1 : (1 : Int) ≤ z.length
    · rw [decide_eq_true h1]
      refine iteT ?_
      refine ⟨_, _, rfl, rfl, _, rfl, ?_⟩
      by_cases h2 : (z.length : Int) ≤ 30
      · rw [decide_eq_true h2]
        refine iteF ?_
        have hnb : numB z = (z.cps.toList.all figB && ((z == ("0" : Str)) || headB z)) := by
          unfold numB; rw [decide_eq_true h1, decide_eq_true h2]; rfl
        obtain ⟨x, r, ex⟩ : ∃ x r, z.cps.toList = x :: r := by
          cases e : z.cps.toList with
          | nil => rw [e] at el; simp at el; omega
          | cons x r => exact ⟨x, r, rfl⟩
        have ehd : headB z = !(sg x == ("0" : Str)) := by unfold headB; rw [ex]
        refine ⟨_, rfl, z, 0, x, rfl, rfl, hzs, by rw [ex]; exact atI_nat (j := 0) rfl, ?_⟩
        refine ⟨rfl, _, rfl, ?_⟩
        refine ite2 (fun hx => ?_) (fun hx => ?_)
        · have hx : sg x = ("0" : Str) := V.str.inj (of_decide_eq_true hx)
          refine ⟨_, rfl, rfl, _, rfl, ?_⟩
          by_cases hz0 : z = ("0" : Str)
          · rw [decide_eq_true (show V.str z = V.str ("0" : Str) by rw [hz0])]
            refine iteF ?_
            have hcond : ((z == ("0" : Str)) || headB z) = true := by rw [hz0]; rfl
            refine ⟨_, rfl, z, rfl, fun D nD => ?_⟩
            refine lc_str (fun i HA => Same H HA ∧ HA D = some (.lst (((z.cps.toList.take i).map digB).map V.bl))) ?_ ?_ ?_
            · exact ⟨same_new nD _, by rw [upd_same]; rfl⟩
            · rintro i c HA hc ⟨sA, hA⟩
              refine ⟨rfl, ?_⟩
              refine ⟨_, rfl, c, _, rfl, rfl, ?_⟩
              refine ⟨_, hA, by rw [List.length_map, List.length_map, List.length_take]; exact small1000 (by omega), same_ov sA nD, ?_⟩
              rw [upd_same, List.take_add_one, hc, List.map_append, List.map_append]; rfl
            rintro H7 ⟨s7, h7⟩
            rw [List.take_length] at h7
            have q7 := q H7 s7
            refine ⟨D, _, rfl, SqL.of h7, _, rfl, ?_⟩
            rw [all_dig]
            by_cases ha : z.cps.toList.all figB = true
            · have hb : numB z = true := by rw [hnb, ha, hcond]; rfl
              obtain ⟨e1, _, _, e2⟩ := numI_reads hb
              rw [numV, hb] at q7
              rw [ha]
              refine iteT ?_
              exact ⟨_, rfl, z, numI z, rfl, e1, by omega, q7⟩
            · have ha' : z.cps.toList.all figB = false := by simpa using ha
              have hb : numB z = false := by rw [hnb, ha']; rfl
              rw [numV, hb] at q7
              rw [ha']
              refine iteF ?_
              exact q7
          · rw [decide_eq_false (show ¬ V.str z = V.str ("0" : Str) from fun e => hz0 (V.str.inj e))]
            refine iteT ?_
            refine bad ?_
            rw [hnb, ehd, hx]
            have : (z == ("0" : Str)) = false := by simpa using hz0
            rw [this]
            simp
        · have hx : ¬ sg x = ("0" : Str) := fun e => hx (decide_eq_true (congrArg V.str e))
          refine iteF ?_
          have hcond : ((z == ("0" : Str)) || headB z) = true := by
            rw [ehd]
            have : (sg x == ("0" : Str)) = false := by simpa using hx
            rw [this]; simp
          refine ⟨_, rfl, z, rfl, fun D nD => ?_⟩
          refine lc_str (fun i HA => Same H HA ∧ HA D = some (.lst (((z.cps.toList.take i).map digB).map V.bl))) ?_ ?_ ?_
          · exact ⟨same_new nD _, by rw [upd_same]; rfl⟩
          · rintro i c HA hc ⟨sA, hA⟩
            refine ⟨rfl, ?_⟩
            refine ⟨_, rfl, c, _, rfl, rfl, ?_⟩
            refine ⟨_, hA, by rw [List.length_map, List.length_map, List.length_take]; exact small1000 (by omega), same_ov sA nD, ?_⟩
            rw [upd_same, List.take_add_one, hc, List.map_append, List.map_append]; rfl
          rintro H7 ⟨s7, h7⟩
          rw [List.take_length] at h7
          have q7 := q H7 s7
          refine ⟨D, _, rfl, SqL.of h7, _, rfl, ?_⟩
          rw [all_dig]
          by_cases ha : z.cps.toList.all figB = true
          · have hb : numB z = true := by rw [hnb, ha, hcond]; rfl
            obtain ⟨e1, _, _, e2⟩ := numI_reads hb
            rw [numV, hb] at q7
            rw [ha]
            refine iteT ?_
            exact ⟨_, rfl, z, numI z, rfl, e1, by omega, q7⟩
          · have ha' : z.cps.toList.all figB = false := by simpa using ha
            have hb : numB z = false := by rw [hnb, ha']; rfl
            rw [numV, hb] at q7
            rw [ha']
            refine iteF ?_
            exact q7
      · rw [decide_eq_false h2]
        refine iteT ?_
        exact bad (by unfold numB; rw [decide_eq_false h2, Bool.and_false, Bool.false_and])
    · rw [decide_eq_false h1]
      refine iteF ?_
      refine ⟨_, rfl, ?_⟩
      refine iteT ?_
      exact bad (by unfold numB; rw [decide_eq_false h1]; rfl)
end
end Lv
set_option Elab.async false
set_option linter.all false
set_option maxRecDepth 100000
namespace L2
open PySem PySem.Spec PyProof.Rows
theorem mk_own {K : W.Frag} {h base : Heap} {mg : Str → Option Value} {x : Str} {C N : Addr} {nm q : Str} {bs bm : List Value} {hdct : Bool} {sn sub ab col dd k0 k1 k2 k3 k5 newId} (X : K.In h) (G : h.Ns mainGlobals mg) (B : K.In base) (a : W.nsIn K mainGlobals x = some (some (.ref C)))
    (l : K.lookup C = some (excClassObj nm q C N bs bm hdct sn sub ab col dd k0 k1 k2 k3 k5 newId)) (ok : W.nsOkIn K N = true) (i : W.nsIn K N "__init__" = some none) (t : W.tailIn K bmVE bm = true) : OwnCls x C bmVE newId mg base :=
  ⟨W.mg_of X G a, bm, N, nm, q, bs, hdct, sn, sub, ab, col, dd, k0, k1, k2, k3, k5, _, B _ _ l, Heap.Ns.of_isNs (W.isNs_of_in B ok), W.nsMap_none_of_in B ok i, W.tail_of_in B t⟩
theorem mk_under {K : W.Frag} {base : Heap} {C C2 N : Addr} {nm q : Str} {bs bm : List Value} {hdct : Bool} {sn sub ab col dd k0 k1 k2 k3 k5 newId} (B : K.In base)
    (l : K.lookup C = some (excClassObj nm q C N bs bm hdct sn sub ab col dd k0 k1 k2 k3 k5 newId)) (c : (Value.ref C :: bm).contains (Value.ref C2) = true) : Under base C C2 :=
  ⟨bm, N, nm, q, bs, hdct, sn, sub, ab, col, dd, k0, k1, k2, k3, k5, newId, B _ _ l, c⟩
theorem mk_excK {K : W.Frag} {C L N : Addr} {nm q : Str} {bs bm : List Value} {hdct : Bool} {sn sub ab col dd k0 k1 k2 k3 k5 newId} {cL : Value} {ddL : Option Addr} {cd : ClassData} {slL : Array (Option Value)}
    (l : K.lookup C = some (excClassObj nm q C N bs bm hdct sn sub ab col dd k0 k1 k2 k3 k5 newId)) (hb : bm = .ref L :: bmVE) (lL : K.lookup L = some ⟨cL, ddL, .cls cd, slL⟩) (ok : W.nsOkIn K cd.ns = true) (qn : (quietNames.all fun n => W.nsIn K cd.ns n == some none) = true)
    (ga : W.findIn K (.ref C) "__getattribute__" = some (some (.builtin "BaseException.__getattribute__"))) (gt : W.findIn K (.ref C) "__getattr__" = some none) (cl : W.findIn K (.ref C) "__class__" = some (some (.builtin "object.__class__"))) (sb : W.subIn K (.ref C) (.type "object") = some true) : ExcK K C := by
  subst hb
  exact ⟨⟨nm, q, N, bs, L, hdct, sn, sub, ab, col, dd, k0, k1, k2, k3, k5, newId, cL, ddL, cd, slL, l, lL, ok, fun n hn => by
    have := List.all_eq_true.mp qn n hn
    exact beq_iff_eq.mp this⟩, ga, gt, cl, sb⟩
end L2
set_option Elab.async false
set_option linter.all false
set_option maxRecDepth 100000
set_option maxHeartbeats 8000000
namespace Lv
open PySem L2
section
variable {P : Program} {w : World} {K : PySem.W.Frag} {mg : Str → Option Value} {base : Heap} {f : Addr} {fd : FuncData}
abbrev sLaw : Stmt := top 21
def nLaw : List Str := ["script", "cell", "deck", "text"]
theorem scLaw : FnScope nLaw ["script"] (defScope sLaw) := ⟨rfl, rfl, rfl, by decide +kernel, rfl, by decide +kernel, by decide +kernel⟩
theorem ok_law (T : Glb mg) {t1 t2 : Addr} (c_law_deck : Callee P w K mg base 1 "_law_deck" ["cell", "k"] spDeckD) (c_law_text : Callee P w K mg base 2 "_law_text" ["deck"] spTextD) (c_law_spoilt : Callee P w K mg base 3 "_law_spoilt" ["deck", "text"] spSpoiltD) (c_law_right : Callee P w K mg base 4 "_law_right" ["text"] (spRightD t1 t2)) (F : Fun K "law" "law" sLaw f fd) : FnOk P w K mg base CX0 5 f fd ["script"] (spLawT K [t1, t2]) := by
  refine F.ok scLaw (fun vs H Q E h => ?_) (fun cdv A outer s H vs Q E hr h => ?_)
  · obtain ⟨a, ns, rfl, _⟩ := h
    rfl
  obtain ⟨a, ns, rfl, hS, h63, hO, hT, q⟩ := h
  have hu := hu_of hr
  refine' ⟨_, ?TT, ?RR⟩
  case TT =>
    refine' pss_cons ?x1 ?x2
    case x1 =>
     refine' ps_for PassesOwn.never rfl ?x3 (pg_name (i := 1) scLaw.nd rfl (Or.inl rfl)) ?x4
     case x3 =>
      refine' pi_list ?x5
      case x5 =>
       refine' pe_op op_cat ?x6 ?x7
       case x6 =>
        exact (pe_slice sl_list (pv 0) po_none (po_some pe_int))
       case x7 =>
        refine' pe_lst ?x8
        case x8 =>
         refine' pa_Const ?x9 ?x10
         case x9 =>
          exact pe_int
         case x10 =>
          refine' pa_Const ?x11 ?x12
          case x11 =>
           exact pe_int
          case x12 =>
           exact pa_nil
     case x4 =>
      refine' pss_cons ?x13 ?x14
      case x13 =>
       refine' ps_set (i := 2) scLaw.nd rfl (Or.inl rfl) ?x15
       case x15 =>
        refine' pe_callC c_law_deck hr rfl ?x16
        case x16 =>
         refine' pa_Name (pv 1) ?x17
         case x17 =>
          refine' pa_Const ?x18 ?x19
          case x18 =>
           exact pe_int
          case x19 =>
           exact pa_nil
      case x14 =>
       refine' pss_cons ?x20 ?x21
       case x20 =>
        refine' ps_set (i := 3) scLaw.nd rfl (Or.inl rfl) ?x22
        case x22 =>
         refine' pe_callC c_law_text hr rfl ?x23
         case x23 =>
          refine' pa_Name (pv 2) ?x24
          case x24 =>
           exact pa_nil
       case x21 =>
        refine' pss_one ?x25
        case x25 =>
         refine' ps_if ?x26 ?x27 ?x28
         case x26 =>
          refine' PW.pt ?x29
          case x29 =>
           refine' pw_or ?x30 ?x31
           case x30 =>
            refine' pt_not ?x32
            case x32 =>
             refine' pt_val ?x33
             case x33 =>
              refine' pe_callC c_law_right hr rfl ?x34
              case x34 =>
               refine' pa_Name (pv 3) ?x35
               case x35 =>
                exact pa_nil
           case x31 =>
            refine' pw_or1 ?x36
            case x36 =>
             refine' pt_not ?x37
             case x37 =>
              refine' pt_val ?x38
              case x38 =>
               refine' pe_callC c_law_right hr rfl ?x39
               case x39 =>
                refine' pa_Call ?x40 ?x41
                case x40 =>
                 refine' pe_callC c_law_spoilt hr rfl ?x42
                 case x42 =>
                  refine' pa_Name (pv 2) ?x43
                  case x43 =>
                   refine' pa_Name (pv 3) ?x44
                   case x44 =>
                    exact pa_nil
                case x41 =>
                 exact pa_nil
         case x27 =>
          refine' pss_one ?x45
          case x45 =>
           refine' ps_ret ?x46
           case x46 =>
            exact pe_bl
         case x28 =>
          exact pss_nil
    case x2 =>
     refine' pss_one ?x47
     case x47 =>
      refine' ps_ret ?x48
      case x48 =>
       refine' pe_and ?x49 ?x50
       case x49 =>
        refine' pe_callC c_law_right hr rfl ?x51
        case x51 =>
         refine' pa_Call ?x52 ?x53
         case x52 =>
          refine' pe_join ?x54 ?x55
          case x54 =>
           exact pe_str
          case x55 =>
           refine' pe_op op_rep ?x56 ?x57
           case x56 =>
            refine' pe_lst ?x58
            case x58 =>
             refine' pa_Const ?x59 ?x60
             case x59 =>
              exact pe_str
             case x60 =>
              exact pa_nil
           case x57 =>
            exact pe_int
         case x53 =>
          exact pa_nil
       case x50 =>
        refine' pe_one ?x61
        case x61 =>
         refine' pe_callC c_law_right hr rfl ?x62
         case x62 =>
          refine' pa_Call ?x63 ?x64
          case x63 =>
           refine' pe_join ?x65 ?x66
           case x65 =>
            exact pe_str
           case x66 =>
            refine' pe_op op_cat ?x67 ?x68
            case x67 =>
             refine' pe_op op_rep ?x69 ?x70
             case x69 =>
              refine' pe_lst ?x71
              case x71 =>
               refine' pa_Const ?x72 ?x73
               case x72 =>
                exact pe_str
               case x73 =>
                exact pa_nil
             case x70 =>
              exact pe_int
            case x68 =>
             refine' pe_lst ?x74
             case x74 =>
              refine' pa_Const ?x75 ?x76
              case x75 =>
               exact pe_str
              case x76 =>
               exact pa_nil
          case x64 =>
           exact pa_nil
  case RR =>
    have hS0 : Scr K H a (ns.map V.int) := Scr.ofT hS hO
    obtain ⟨cs, ecs, lcs⟩ : ∃ cs : List Int, cutV (ns.map V.int) none (some 40) = cs.map V.int ∧ cs.length ≤ 63 := by
      refine ⟨_, map_cut _ _ _, ?_⟩
      have cl : (cutV (ns.map V.int) none (some 40)).length ≤ 63 := Nat.le_trans (cutV_length _ _ _) (by rw [List.length_map]; exact h63)
      rw [map_cut, List.length_map] at cl
      exact cl
    have hT1 := hT t1 (List.mem_cons_self ..)
    have hT2 := hT t2 (List.mem_cons_of_mem _ (List.mem_cons_self ..))
    refine ⟨_, rfl, _, rfl, a, _, rfl, hS0.seq, fun p1 hp1 => ?_⟩
    rw [ecs]
    generalize j1 : upd _ p1 _ = Ha
    have sa := upS j1 hp1; have ea := upE j1
    refine ⟨(by show 2 ≤ sizeLine; decide), fun p2 hp2 => ?_⟩
    generalize j2 : upd _ p2 _ = Hb
    have sb := upS j2 hp2; have eb := upE j2
    refine ⟨p1, p2, _, _, rfl, rfl, sb _ _ ea, eb, by rw [List.length_map]; exact Nat.le_trans (Nat.add_le_add_right lcs 2) (by decide), fun l nl => ?_⟩
    generalize j3 : upd _ l _ = H0
    have sc := upS j3 nl; have ec := upE j3
    have hl : H0 l = some (.lst ((cs ++ [0, 1]).map V.int)) := by rw [ec, List.map_append]; rfl
    have s0 : Same H H0 := sa.trans (sb.trans sc)
    refine ⟨l, rfl, ⟨_, SqL.of hl⟩, for_list (K := K) (a := l) (xs := (cs ++ [0, 1]).map V.int) (fun i σ H1 => Same H0 H1 ∧ ∃ v1 v2 v3 : Option V, σ = [some (.ref a), v1, v2, v3]) ?_ ?_ ?_ ?_⟩
    · exact ⟨Same.refl _, _, _, _, rfl⟩
    · rintro i σ H1 hi ⟨s1, _⟩
      exact SqL.of (s1 _ _ hl)
    · rintro i y σ H1 hi ⟨s1, v1, v2, v3, rfl⟩
      rw [List.getElem?_map] at hi
      obtain ⟨cc, hcc, rfl⟩ := Option.map_eq_some_iff.mp hi
      refine ⟨_, rfl, cc, 5, rfl, by decide, by decide, fun p H2 hp hD s2 => ?_⟩
      refine ⟨_, rfl, p, 5, rfl, hD, by decide, fun z H3 lz hD3 k3 => ?_⟩
      have u13 : Same H1 H3 := fun b o e => k3 _ _ (s2 _ _ e) (ne_of_none e hp)
      have t13 : Same H H3 := s0.trans (s1.trans u13)
      refine ⟨_, rfl, z, rfl, Nat.le_trans lz (by decide), t13 _ _ hT1, t13 _ _ hT2, fun H4 s4 => ?_⟩
      refine ⟨_, rfl, ?_⟩
      refine iteF ?_
      refine ⟨_, rfl, _, rfl, p, z, _, rfl, lz, hD3.same s4, by decide, fun y H5 ly k5 => ?_⟩
      have u15 : Same H1 H5 := fun b o e => k5 _ _ (s4 _ _ (u13 _ _ e)) (ne_of_none e hp)
      have t15 : Same H H5 := s0.trans (s1.trans u15)
      refine ⟨y, rfl, ly, t15 _ _ hT1, t15 _ _ hT2, fun H6 s6 => ?_⟩
      refine ⟨_, rfl, ?_⟩
      refine iteF ?_
      exact ⟨s1.trans (u15.trans s6), _, _, _, rfl⟩
    · rintro σ H1 ⟨s1, v1, v2, v3, rfl⟩
      have t1' : Same H H1 := s0.trans s1
      have e1 : (" " : Str).length = 1 := by decide +kernel
      refine ⟨⟨_, rfl⟩, (by show 1 ≤ sizeLine; decide), fun l1 nl1 => ?_⟩
      generalize j4 : upd _ l1 _ = H2
      have s2 := upS j4 nl1; have e2 := upE j4
      refine ⟨l1, 1490, _, rfl, rfl, e2, by decide, by decide, Nat.le_trans (m := 1490) (by decide) (by decide), fun l2 nl2 => ?_⟩
      generalize j5 : upd _ l2 _ = H3
      have s3 := upS j5 nl2; have e3 := upE j5
      have e3' : H3 l2 = some (.lst ((List.replicate (1490 : Int).toNat (Str.ofString "0")).map V.str)) := by rw [e3, flat_rep]
      have r0 := rep_sum (Str.ofString "0") (by decide +kernel) (1490 : Int).toNat
      have n0 : (1490 : Int).toNat = 1490 := rfl
      generalize (1490 : Int).toNat = n1 at e3' r0 n0
      have lr : (List.replicate n1 (Str.ofString "0")).length = n1 := List.length_replicate
      generalize List.replicate n1 (Str.ofString "0") = ws at e3' r0 lr
      refine ⟨_, l2, ws, rfl, rfl, .inl (SqL.of e3'), by rw [e1]; omega, ?_⟩
      have jl := join_len (" " : Str) ws
      rw [e1] at jl
      have t3 : Same H H3 := t1'.trans (s2.trans s3)
      refine ⟨_, rfl, by omega, t3 _ _ hT1, t3 _ _ hT2, fun H4 s4 => ?_⟩
      refine ⟨true, rfl, ?_⟩
      refine iteT ?_
      have t4 := t3.trans s4
      refine ⟨⟨_, rfl⟩, (by show 1 ≤ sizeLine; decide), fun l3 nl3 => ?_⟩
      generalize j6 : upd _ l3 _ = H5
      have s5 := upS j6 nl3; have e5 := upE j6
      refine ⟨l3, 1480, _, rfl, rfl, e5, by decide, by decide, Nat.le_trans (m := 1480) (by decide) (by decide), fun l4 nl4 => ?_⟩
      generalize j7 : upd _ l4 _ = H6
      have s6 := upS j7 nl4; have e6 := upE j7
      have e6' : H6 l4 = some (.lst ((List.replicate (1480 : Int).toNat (Str.ofString "7")).map V.str)) := by rw [e6, flat_rep]
      have r7 := rep_sum (Str.ofString "7") (by decide +kernel) (1480 : Int).toNat
      have n7 : (1480 : Int).toNat = 1480 := rfl
      generalize (1480 : Int).toNat = n2 at e6' r7 n7
      have lr7 : (List.replicate n2 (Str.ofString "7")).length = n2 := List.length_replicate
      generalize List.replicate n2 (Str.ofString "7") = vs7 at e6' r7 lr7
      refine ⟨(by show 1 ≤ sizeLine; decide), fun l5 nl5 => ?_⟩
      generalize j8 : upd _ l5 _ = H7
      have s7 := upS j8 nl5; have e7 := upE j8
      refine ⟨l4, l5, _, _, rfl, rfl, s7 _ _ e6', e7, Nat.le_trans (m := 1481) (by rw [List.length_map, lr7]; show _ + 1 ≤ _; omega) (by decide), fun l6 nl6 => ?_⟩
      generalize j9 : upd _ l6 _ = H8
      have s8 := upS j9 nl6; have e8 := upE j9
      have e8' : H8 l6 = some (.lst ((vs7 ++ [Str.ofString "07"]).map V.str)) := by rw [e8, List.map_append]; rfl
      have l07 : (Str.ofString "07").length = 2 := by decide +kernel
      have hsum : ((vs7 ++ [Str.ofString "07"]).map (·.length)).sum ≤ 3000 := by
        rw [List.map_append, List.sum_append]
        show _ + ((Str.ofString "07").length + 0) ≤ _
        omega
      have hcnt : (vs7 ++ [Str.ofString "07"]).length ≤ 1481 := by
        rw [List.length_append]
        show _ + 1 ≤ _
        omega
      have jl2 := join_len (" " : Str) (vs7 ++ [Str.ofString "07"])
      rw [e1] at jl2
      refine ⟨_, l6, _, rfl, rfl, .inl (SqL.of e8'), by rw [e1]; omega, ?_⟩
      have t8 : Same H H8 := t4.trans (s5.trans (s6.trans (s7.trans s8)))
      refine ⟨_, rfl, by omega, t8 _ _ hT1, t8 _ _ hT2, fun H9 s9 => ?_⟩
      exact q H9 fun b hb => s9 _ _ (t8 _ _ (hT b hb))
end
end Lv
set_option Elab.async false
set_option linter.all false
set_option maxRecDepth 100000
set_option maxHeartbeats 8000000
namespace Lv
open PySem L2
theorem all_mk {l : PySem.W.OpenLaw} {w : World} {K : PySem.W.Frag} {h : Heap} {mg : Str → Option Value} {fa : Addr} {f1 f2 f3 f4 f5 f6 f7 f8 f9 f10  : Addr} {od1 an1 od2 an2 od3 an3 od4 an4 od5 an5 od6 an6 od7 an7 od8 an8 od9 an9 od10 an10 : Option Addr} {sl1 sl2 sl3 sl4 sl5 sl6 sl7 sl8 sl9 sl10 : Array (Option Value)} {oc1 kV1 dc1 pm1 cd1 ct1 oc2 kV2 dc2 pm2 cd2 ct2 oc3 kV3 dc3 pm3 cd3 ct3 oc4 kV4 dc4 pm4 cd4 ct4 oc5 kV5 dc5 pm5 cd5 ct5 oc6 kV6 dc6 pm6 cd6 ct6 oc7 kV7 dc7 pm7 cd7 ct7 oc8 kV8 dc8 pm8 cd8 ct8 oc9 kV9 dc9 pm9 cd9 ct9 oc10 kV10 dc10 pm10 cd10 ct10 : Value} {cc1 : Addr} {cc2 : Addr} {E_LeaveError : Addr} {E_NoPlace : Addr} {E_NoRow : Addr} {E_NoLetters : Addr} {E_NoLetter : Addr} {E_NoText : Addr} {E_NoCommand : Addr} {N_LeaveError : Addr} {nm_LeaveError q_LeaveError : Str} {bs_LeaveError bm_LeaveError : List Value} {hd_LeaveError : Bool} {sn_LeaveError sub_LeaveError ab_LeaveError col_LeaveError dd_LeaveError k0_LeaveError k1_LeaveError k2_LeaveError k3_LeaveError k5_LeaveError ni_LeaveError} {N_NoText : Addr} {nm_NoText q_NoText : Str} {bs_NoText bm_NoText : List Value} {hd_NoText : Bool} {sn_NoText sub_NoText ab_NoText col_NoText dd_NoText k0_NoText k1_NoText k2_NoText k3_NoText k5_NoText ni_NoText} {cL_NoText : Value} {ddL_NoText : Option Addr} {cd_NoText : ClassData} {slL_NoText : Array (Option Value)} {tk_MOST_FIGURES : Tok}
    (X : K.In h) (G : h.Ns mainGlobals mg) (hfa : mg "law" = some (.ref fa))
    (a1 : PySem.W.nsIn K mainGlobals "is_number" = some (some (.ref f1)))
    (l1 : K.lookup f1 = some ⟨oc1, od1, .func (PySem.W.fnOf "is_number" "is_number" (defArgs sIsNumber) (defBody sIsNumber) (defScope sIsNumber) .none kV1 dc1 pm1 an1 cd1 ct1), sl1⟩)
    (c1 : PySem.W.codeIn K cd1 "is_number" = true)
    (k1 : PySem.W.keepIn K (.ref f1) = true)
    (ce1 : cd1 = .ref cc1)
    (ck1 : CodeK K cc1 106)
    (a2 : PySem.W.nsIn K mainGlobals "read_list" = some (some (.ref f2)))
    (l2 : K.lookup f2 = some ⟨oc2, od2, .func (PySem.W.fnOf "read_list" "read_list" (defArgs sReadList) (defBody sReadList) (defScope sReadList) .none kV2 dc2 pm2 an2 cd2 ct2), sl2⟩)
    (c2 : PySem.W.codeIn K cd2 "read_list" = true)
    (k2 : PySem.W.keepIn K (.ref f2) = true)
    (ce2 : cd2 = .ref cc2)
    (ck2 : CodeK K cc2 101)
    (a3 : PySem.W.nsIn K mainGlobals "_law_take" = some (some (.ref f3)))
    (l3 : K.lookup f3 = some ⟨oc3, od3, .func (PySem.W.fnOf "_law_take" "_law_take" (defArgs sLawTake) (defBody sLawTake) (defScope sLawTake) .none kV3 dc3 pm3 an3 cd3 ct3), sl3⟩)
    (c3 : PySem.W.codeIn K cd3 "_law_take" = true)
    (k3 : PySem.W.keepIn K (.ref f3) = true)
    (a4 : PySem.W.nsIn K mainGlobals "_law_deck" = some (some (.ref f4)))
    (l4 : K.lookup f4 = some ⟨oc4, od4, .func (PySem.W.fnOf "_law_deck" "_law_deck" (defArgs sLawDeck) (defBody sLawDeck) (defScope sLawDeck) .none kV4 dc4 pm4 an4 cd4 ct4), sl4⟩)
    (c4 : PySem.W.codeIn K cd4 "_law_deck" = true)
    (k4 : PySem.W.keepIn K (.ref f4) = true)
    (a5 : PySem.W.nsIn K mainGlobals "_law_text" = some (some (.ref f5)))
    (l5 : K.lookup f5 = some ⟨oc5, od5, .func (PySem.W.fnOf "_law_text" "_law_text" (defArgs sLawText) (defBody sLawText) (defScope sLawText) .none kV5 dc5 pm5 an5 cd5 ct5), sl5⟩)
    (c5 : PySem.W.codeIn K cd5 "_law_text" = true)
    (k5 : PySem.W.keepIn K (.ref f5) = true)
    (a6 : PySem.W.nsIn K mainGlobals "_law_bad" = some (some (.ref f6)))
    (l6 : K.lookup f6 = some ⟨oc6, od6, .func (PySem.W.fnOf "_law_bad" "_law_bad" (defArgs sLawBad) (defBody sLawBad) (defScope sLawBad) .none kV6 dc6 pm6 an6 cd6 ct6), sl6⟩)
    (c6 : PySem.W.codeIn K cd6 "_law_bad" = true)
    (k6 : PySem.W.keepIn K (.ref f6) = true)
    (a7 : PySem.W.nsIn K mainGlobals "_law_spoilt" = some (some (.ref f7)))
    (l7 : K.lookup f7 = some ⟨oc7, od7, .func (PySem.W.fnOf "_law_spoilt" "_law_spoilt" (defArgs sLawSpoilt) (defBody sLawSpoilt) (defScope sLawSpoilt) .none kV7 dc7 pm7 an7 cd7 ct7), sl7⟩)
    (c7 : PySem.W.codeIn K cd7 "_law_spoilt" = true)
    (k7 : PySem.W.keepIn K (.ref f7) = true)
    (a8 : PySem.W.nsIn K mainGlobals "_law_number_in" = some (some (.ref f8)))
    (l8 : K.lookup f8 = some ⟨oc8, od8, .func (PySem.W.fnOf "_law_number_in" "_law_number_in" (defArgs sLawNumberIn) (defBody sLawNumberIn) (defScope sLawNumberIn) .none kV8 dc8 pm8 an8 cd8 ct8), sl8⟩)
    (c8 : PySem.W.codeIn K cd8 "_law_number_in" = true)
    (k8 : PySem.W.keepIn K (.ref f8) = true)
    (a9 : PySem.W.nsIn K mainGlobals "_law_right" = some (some (.ref f9)))
    (l9 : K.lookup f9 = some ⟨oc9, od9, .func (PySem.W.fnOf "_law_right" "_law_right" (defArgs sLawRight) (defBody sLawRight) (defScope sLawRight) .none kV9 dc9 pm9 an9 cd9 ct9), sl9⟩)
    (c9 : PySem.W.codeIn K cd9 "_law_right" = true)
    (k9 : PySem.W.keepIn K (.ref f9) = true)
    (a10 : PySem.W.nsIn K mainGlobals "law" = some (some (.ref f10)))
    (l10 : K.lookup f10 = some ⟨oc10, od10, .func (PySem.W.fnOf "law" "law" (defArgs sLaw) (defBody sLaw) (defScope sLaw) .none kV10 dc10 pm10 an10 cd10 ct10), sl10⟩)
    (c10 : PySem.W.codeIn K cd10 "law" = true)
    (k10 : PySem.W.keepIn K (.ref f10) = true)
    (aE_LeaveError : PySem.W.nsIn K mainGlobals "LeaveError" = some (some (.ref E_LeaveError)))
    (aE_NoPlace : PySem.W.nsIn K mainGlobals "NoPlace" = some (some (.ref E_NoPlace)))
    (aE_NoRow : PySem.W.nsIn K mainGlobals "NoRow" = some (some (.ref E_NoRow)))
    (aE_NoLetters : PySem.W.nsIn K mainGlobals "NoLetters" = some (some (.ref E_NoLetters)))
    (aE_NoLetter : PySem.W.nsIn K mainGlobals "NoLetter" = some (some (.ref E_NoLetter)))
    (aE_NoText : PySem.W.nsIn K mainGlobals "NoText" = some (some (.ref E_NoText)))
    (aE_NoCommand : PySem.W.nsIn K mainGlobals "NoCommand" = some (some (.ref E_NoCommand)))
    (lE_LeaveError : K.lookup E_LeaveError = some (PySem.excClassObj nm_LeaveError q_LeaveError E_LeaveError N_LeaveError bs_LeaveError bm_LeaveError hd_LeaveError sn_LeaveError sub_LeaveError ab_LeaveError col_LeaveError dd_LeaveError k0_LeaveError k1_LeaveError k2_LeaveError k3_LeaveError k5_LeaveError ni_LeaveError))
    (okE_LeaveError : PySem.W.nsOkIn K N_LeaveError = true)
    (iE_LeaveError : PySem.W.nsIn K N_LeaveError "__init__" = some none)
    (tE_LeaveError : PySem.W.tailIn K bmVE bm_LeaveError = true)
    (lE_NoText : K.lookup E_NoText = some (PySem.excClassObj nm_NoText q_NoText E_NoText N_NoText bs_NoText bm_NoText hd_NoText sn_NoText sub_NoText ab_NoText col_NoText dd_NoText k0_NoText k1_NoText k2_NoText k3_NoText k5_NoText ni_NoText))
    (okE_NoText : PySem.W.nsOkIn K N_NoText = true)
    (iE_NoText : PySem.W.nsIn K N_NoText "__init__" = some none)
    (tE_NoText : PySem.W.tailIn K bmVE bm_NoText = true)
    (niE_NoText : ni_NoText = "ValueError.__new__")
    (hbE_NoText : bm_NoText = .ref E_LeaveError :: bmVE)
    (lLE_NoText : K.lookup E_LeaveError = some ⟨cL_NoText, ddL_NoText, .cls cd_NoText, slL_NoText⟩)
    (ok2E_NoText : PySem.W.nsOkIn K cd_NoText.ns = true)
    (qnE_NoText : (PySem.quietNames.all fun n => PySem.W.nsIn K cd_NoText.ns n == some none) = true)
    (gaE_NoText : PySem.W.findIn K (.ref E_NoText) "__getattribute__" = some (some (.builtin "BaseException.__getattribute__")))
    (gtE_NoText : PySem.W.findIn K (.ref E_NoText) "__getattr__" = some none)
    (clE_NoText : PySem.W.findIn K (.ref E_NoText) "__class__" = some (some (.builtin "object.__class__")))
    (sbE_NoText : PySem.W.subIn K (.ref E_NoText) (.type "object") = some true)
    (unE_NoText : (Value.ref E_NoText :: bm_NoText).contains (Value.ref E_LeaveError) = true)
    (anyE_NoText : PySem.W.kitAny K (.ref E_NoText) [.ref E_NoCommand, .ref E_NoLetter, .ref E_NoLetters, .ref E_NoPlace, .ref E_NoRow] = some false)
    (oneE_NoText : PySem.W.kitOne K (.ref E_NoText) (.ref E_NoText) = some true)
    (valE_NoText : PySem.W.kitOne K (.ref E_NoText) (.type "ValueError") = some true)
    (z_range : PySem.W.nsIn K mainGlobals "range" = some none)
    (z_len : PySem.W.nsIn K mainGlobals "len" = some none)
    (z_max : PySem.W.nsIn K mainGlobals "max" = some none)
    (z_min : PySem.W.nsIn K mainGlobals "min" = some none)
    (z_int : PySem.W.nsIn K mainGlobals "int" = some none)
    (z_bool : PySem.W.nsIn K mainGlobals "bool" = some none)
    (z_str : PySem.W.nsIn K mainGlobals "str" = some none)
    (z_list : PySem.W.nsIn K mainGlobals "list" = some none)
    (z_tuple : PySem.W.nsIn K mainGlobals "tuple" = some none)
    (z_dict : PySem.W.nsIn K mainGlobals "dict" = some none)
    (z_set : PySem.W.nsIn K mainGlobals "set" = some none)
    (z_sum : PySem.W.nsIn K mainGlobals "sum" = some none)
    (z_sorted : PySem.W.nsIn K mainGlobals "sorted" = some none)
    (z_enumerate : PySem.W.nsIn K mainGlobals "enumerate" = some none)
    (z_isinstance : PySem.W.nsIn K mainGlobals "isinstance" = some none)
    (z_reversed : PySem.W.nsIn K mainGlobals "reversed" = some none)
    (z_repr : PySem.W.nsIn K mainGlobals "repr" = some none)
    (z_all : PySem.W.nsIn K mainGlobals "all" = some none)
    (z_zip : PySem.W.nsIn K mainGlobals "zip" = some none)
    (z_ValueError : PySem.W.nsIn K mainGlobals "ValueError" = some none)
    (kx_MOST_FIGURES : PySem.W.nsIn K mainGlobals "MOST_FIGURES" = some (some (.int 30 tk_MOST_FIGURES))) :
    ∃ fd : FuncData, (∀ (s : Shared) (v : Value), BindsTo s fd ⟨[v], []⟩ [("script", v)]) ∧ ∀ base : Heap, K.In base → base.Ns mainGlobals mg → BModB base mg → FnOk l.prog w K mg base CX0 5 fa fd ["script"] (spLawT K [101, 106]) := by
  have e := hfa.symm.trans (PySem.W.mg_of X G a10)
  cases e
  have T : Glb mg := Glb.mk_ X G z_range z_len z_max z_min z_int z_bool z_str z_list z_tuple z_dict z_set z_sum z_sorted z_enumerate z_isinstance z_reversed z_repr z_all z_zip
  have m_ValueError : mg "ValueError" = none := PySem.W.mg_none_of X G z_ValueError
  have m_MOST_FIGURES := PySem.W.mg_of X G kx_MOST_FIGURES
  have r_MOST_FIGURES : RelV (.int 30) (Value.int 30 tk_MOST_FIGURES) := ⟨_, rfl⟩
  have F1 := fun_mk (st := sIsNumber) l1 c1 k1
  have b1 := F1.binds (ps := ["word"]) fun _ _ _ _ _ _ us hl => match us, hl with | [_], _ => rfl
  have F2 := fun_mk (st := sReadList) l2 c2 k2
  have b2 := F2.binds (ps := ["text"]) fun _ _ _ _ _ _ us hl => match us, hl with | [_], _ => rfl
  have F3 := fun_mk (st := sLawTake) l3 c3 k3
  have b3 := F3.binds (ps := ["deck", "many"]) fun _ _ _ _ _ _ us hl => match us, hl with | [_, _], _ => rfl
  have F4 := fun_mk (st := sLawDeck) l4 c4 k4
  have b4 := F4.binds (ps := ["cell", "k"]) fun _ _ _ _ _ _ us hl => match us, hl with | [_, _], _ => rfl
  have F5 := fun_mk (st := sLawText) l5 c5 k5
  have b5 := F5.binds (ps := ["deck"]) fun _ _ _ _ _ _ us hl => match us, hl with | [_], _ => rfl
  have F6 := fun_mk (st := sLawBad) l6 c6 k6
  have b6 := F6.binds (ps := ["deck"]) fun _ _ _ _ _ _ us hl => match us, hl with | [_], _ => rfl
  have F7 := fun_mk (st := sLawSpoilt) l7 c7 k7
  have b7 := F7.binds (ps := ["deck", "text"]) fun _ _ _ _ _ _ us hl => match us, hl with | [_, _], _ => rfl
  have F8 := fun_mk (st := sLawNumberIn) l8 c8 k8
  have b8 := F8.binds (ps := ["word"]) fun _ _ _ _ _ _ us hl => match us, hl with | [_], _ => rfl
  have F9 := fun_mk (st := sLawRight) l9 c9 k9
  have b9 := F9.binds (ps := ["text"]) fun _ _ _ _ _ _ us hl => match us, hl with | [_], _ => rfl
  have F10 := fun_mk (st := sLaw) l10 c10 k10
  have b10 := F10.binds (ps := ["script"]) fun _ _ _ _ _ _ us hl => match us, hl with | [_], _ => rfl
  refine ⟨PySem.W.fnOf "law" "law" (defArgs sLaw) (defBody sLaw) (defScope sLaw) .none kV10 dc10 pm10 an10 cd10 ct10, fun s v => .of_eq rfl, fun base kB _ B => ?_⟩
  have O_LeaveError := mk_own X G kB aE_LeaveError lE_LeaveError okE_LeaveError iE_LeaveError tE_LeaveError
  have O_NoText := mk_own X G kB aE_NoText lE_NoText okE_NoText iE_NoText tE_NoText
  rw [niE_NoText] at O_NoText
  have xk_NoText := mk_excK lE_NoText hbE_NoText lLE_NoText ok2E_NoText qnE_NoText gaE_NoText gtE_NoText clE_NoText sbE_NoText
  have un_NoText : Under base E_NoText E_LeaveError := mk_under kB lE_NoText unE_NoText
  have mE_NoPlace := PySem.W.mg_of X G aE_NoPlace
  have mE_NoRow := PySem.W.mg_of X G aE_NoRow
  have mE_NoLetters := PySem.W.mg_of X G aE_NoLetters
  have mE_NoLetter := PySem.W.mg_of X G aE_NoLetter
  have mE_NoText := PySem.W.mg_of X G aE_NoText
  have mE_NoCommand := PySem.W.mg_of X G aE_NoCommand
  have mE_LeaveError := PySem.W.mg_of X G aE_LeaveError
  have c_is_number : Callee l.prog w K mg base 1 "is_number" ["word"] spNever := ⟨f1, _, fnNever, PySem.W.mg_of X G a1, k1, b1⟩
  have c_read_list : Callee l.prog w K mg base 2 "read_list" ["text"] spNever := ⟨f2, _, fnNever, PySem.W.mg_of X G a2, k2, b2⟩
  have W1 := ok_readB (P := l.prog) (w := w) (base := base) T O_NoText B ck2 ce2 ck1 ce1 F1 b1 (PySem.W.mg_of X G a1) m_MOST_FIGURES F2
  have c_law_take : Callee l.prog w K mg base 1 "_law_take" ["deck", "many"] spTakeD := ⟨f3, _, ok_take T F3, PySem.W.mg_of X G a3, k3, b3⟩
  have c_law_deck : Callee l.prog w K mg base 1 "_law_deck" ["cell", "k"] spDeckD := ⟨f4, _, ok_deck T F4, PySem.W.mg_of X G a4, k4, b4⟩
  have c_law_text : Callee l.prog w K mg base 2 "_law_text" ["deck"] spTextD := ⟨f5, _, ok_text T c_law_take F5, PySem.W.mg_of X G a5, k5, b5⟩
  have c_law_bad : Callee l.prog w K mg base 2 "_law_bad" ["deck"] spBadD := ⟨f6, _, ok_bad T c_law_take F6, PySem.W.mg_of X G a6, k6, b6⟩
  have c_law_spoilt : Callee l.prog w K mg base 3 "_law_spoilt" ["deck", "text"] spSpoiltD := ⟨f7, _, ok_spoilt T c_law_take c_law_bad F7, PySem.W.mg_of X G a7, k7, b7⟩
  have c_law_number_in : Callee l.prog w K mg base 1 "_law_number_in" ["word"] spNumberIn := ⟨f8, _, ok_numberIn T F8, PySem.W.mg_of X G a8, k8, b8⟩
  have c_law_right : Callee l.prog w K mg base 4 "_law_right" ["text"] (spRightD 101 106) := ⟨f9, _, ok_right T O_LeaveError un_NoText mE_NoText mE_NoCommand mE_NoLetter mE_NoLetters mE_NoPlace mE_NoRow m_ValueError xk_NoText anyE_NoText oneE_NoText valE_NoText W1 (PySem.W.mg_of X G a2) k2 b2 c_law_number_in F9, PySem.W.mg_of X G a9, k9, b9⟩
  exact ok_law T c_law_deck c_law_text c_law_spoilt c_law_right F10
theorem walk {l : PySem.W.OpenLaw} {q : Program} {loose : List Str} {XP : (Str → Option Value) → Heap → Prop} {YP : World → Heap → Prop} {d : DefRec} {K : Params → PySem.W.Frag} (hn : l.most = some 63) (hdf : d.params.defaults = [])
    (hY : ∀ (w : World) (h : Heap), YP w h → (K w.params).In h) (hmk : ∀ w : World, Makers q (K w.params) [("read_list", 101), ("is_number", 106)])
    (F : ∀ (w : World) (mg : Str → Option Value) (fa : Addr) (h : Heap), (K w.params).In h → h.Ns mainGlobals mg → mg d.name = some (.ref fa) →
      ∃ fd : FuncData, (∀ (s : Shared) (u : Value), BindsTo s fd ⟨[u], []⟩ [("script", u)]) ∧ ∀ base : Heap, (K w.params).In base → base.Ns mainGlobals mg → BModB base mg → FnOk l.prog w (K w.params) mg base CX0 5 fa fd ["script"] (spLawT (K w.params) [101, 106])) :
    PySem.W.WalkO q loose XP YP l.row.toRowW d [] (fun f vs => PySem.call f vs) :=
  L2.walk_ofT [("read_list", 101), ("is_number", 106)] (n := 63) (k := 5) (x := "script") (CX := fun _ => CX0) (sp := fun w => spLawT (K w.params) [101, 106]) hn (by decide) hdf ⟨rfl, by decide, by decide, rfl⟩ hY hmk F (fun _ _ a ns hl hO hT hS => ⟨a, ns, rfl, hS, hl, hO, hT, fun _ h => ⟨rfl, h⟩⟩) fun _ _ _ _ _ z => z
end Lv
open PySem PySem.W PyProof.Rows
set_option maxRecDepth 100000 in
set_option maxHeartbeats 0 in
theorem PySem.Challenge.cw_leavings_k50_texts_of_no_list_holds : PySem.Challenge.rw_leavings_k50_texts_of_no_list.Holds := by
  w_on; o_law; k_head; (case hw => w_witness2)
  k_fill
  refine Lv.walk (l := PySem.Challenge.rw_leavings_k50_texts_of_no_list) rfl rfl (fun w h Y => PySem.W.kIn_of Y) ?mkx ?F
  case mkx =>
    intro w
    refine' L2.mk_makers ?mh1 ?mh2 ?mh3 ?mh4 ?mh5 ?mh6 ?mh7
    (case mh1 => rfl); (case mh2 => k_is); (case mh3 => k_is); (case mh4 => rfl); (case mh5 => (refine' L2.mk_codeK ?cq0 ?cq1 ?cq2 ?cq3 ?cq4 ?cq5 ?cq6 ?cq7 ?cq8; (case cq0 => k_is); (case cq1 => rfl); (case cq2 => rfl); (case cq3 => rfl); (case cq4 => rfl); (case cq5 => rfl); (case cq6 => rfl); (case cq7 => rfl); (case cq8 => decide))); (case mh6 => rfl)
    case mh7 =>
    refine' L2.mk_makers ?mh1 ?mh2 ?mh3 ?mh4 ?mh5 ?mh6 ?mh7
    (case mh1 => rfl); (case mh2 => k_is); (case mh3 => k_is); (case mh4 => rfl); (case mh5 => (refine' L2.mk_codeK ?cq0 ?cq1 ?cq2 ?cq3 ?cq4 ?cq5 ?cq6 ?cq7 ?cq8; (case cq0 => k_is); (case cq1 => rfl); (case cq2 => rfl); (case cq3 => rfl); (case cq4 => rfl); (case cq5 => rfl); (case cq6 => rfl); (case cq7 => rfl); (case cq8 => decide))); (case mh6 => rfl)
    case mh7 =>
    exact trivial
  case F =>
    intro w mg fa h KX G hmg
    refine' Lv.all_mk KX G hmg ?a1 ?l1 ?c1 ?k1 ?ce1 ?ck1 ?a2 ?l2 ?c2 ?k2 ?ce2 ?ck2 ?a3 ?l3 ?c3 ?k3 ?a4 ?l4 ?c4 ?k4 ?a5 ?l5 ?c5 ?k5 ?a6 ?l6 ?c6 ?k6 ?a7 ?l7 ?c7 ?k7 ?a8 ?l8 ?c8 ?k8 ?a9 ?l9 ?c9 ?k9 ?a10 ?l10 ?c10 ?k10 ?aE_LeaveError ?aE_NoPlace ?aE_NoRow ?aE_NoLetters ?aE_NoLetter ?aE_NoText ?aE_NoCommand ?lE_LeaveError ?okE_LeaveError ?iE_LeaveError ?tE_LeaveError ?lE_NoText ?okE_NoText ?iE_NoText ?tE_NoText ?niE_NoText ?hbE_NoText ?lLE_NoText ?ok2E_NoText ?qnE_NoText ?gaE_NoText ?gtE_NoText ?clE_NoText ?sbE_NoText ?unE_NoText ?anyE_NoText ?oneE_NoText ?valE_NoText ?z_range ?z_len ?z_max ?z_min ?z_int ?z_bool ?z_str ?z_list ?z_tuple ?z_dict ?z_set ?z_sum ?z_sorted ?z_enumerate ?z_isinstance ?z_reversed ?z_repr ?z_all ?z_zip ?z_ValueError ?kx_MOST_FIGURES
    (case a1 => k_is); (case l1 => k_is); (case c1 => k_is); (case k1 => k_is); (case ce1 => rfl); (case ck1 => (refine' L2.mk_codeK ?cq0 ?cq1 ?cq2 ?cq3 ?cq4 ?cq5 ?cq6 ?cq7 ?cq8; (case cq0 => k_is); (case cq1 => rfl); (case cq2 => rfl); (case cq3 => rfl); (case cq4 => rfl); (case cq5 => rfl); (case cq6 => rfl); (case cq7 => rfl); (case cq8 => decide)))
    (case a2 => k_is); (case l2 => k_is); (case c2 => k_is); (case k2 => k_is); (case ce2 => rfl); (case ck2 => (refine' L2.mk_codeK ?cq0 ?cq1 ?cq2 ?cq3 ?cq4 ?cq5 ?cq6 ?cq7 ?cq8; (case cq0 => k_is); (case cq1 => rfl); (case cq2 => rfl); (case cq3 => rfl); (case cq4 => rfl); (case cq5 => rfl); (case cq6 => rfl); (case cq7 => rfl); (case cq8 => decide)))
    (case a3 => k_is); (case l3 => k_is); (case c3 => k_is); (case k3 => k_is); (case a4 => k_is); (case l4 => k_is)
    (case c4 => k_is); (case k4 => k_is); (case a5 => k_is); (case l5 => k_is); (case c5 => k_is); (case k5 => k_is)
    (case a6 => k_is); (case l6 => k_is); (case c6 => k_is); (case k6 => k_is); (case a7 => k_is); (case l7 => k_is)
    (case c7 => k_is); (case k7 => k_is); (case a8 => k_is); (case l8 => k_is); (case c8 => k_is); (case k8 => k_is)
    (case a9 => k_is); (case l9 => k_is); (case c9 => k_is); (case k9 => k_is); (case a10 => k_is); (case l10 => k_is)
    (case c10 => k_is); (case k10 => k_is); (case aE_LeaveError => k_is); (case aE_NoPlace => k_is); (case aE_NoRow => k_is); (case aE_NoLetters => k_is)
    (case aE_NoLetter => k_is); (case aE_NoText => k_is); (case aE_NoCommand => k_is); (case lE_LeaveError => k_is); (case okE_LeaveError => kernel_rfl); (case iE_LeaveError => k_is)
    (case tE_LeaveError => kernel_rfl); (case lE_NoText => k_is); (case okE_NoText => kernel_rfl); (case iE_NoText => k_is); (case tE_NoText => kernel_rfl); (case niE_NoText => rfl)
    (case hbE_NoText => rfl); (case lLE_NoText => k_is); (case ok2E_NoText => kernel_rfl); (case qnE_NoText => kernel_rfl); (case gaE_NoText => k_is); (case gtE_NoText => k_is)
    (case clE_NoText => k_is); (case sbE_NoText => k_is); (case unE_NoText => rfl); (case anyE_NoText => kernel_rfl); (case oneE_NoText => kernel_rfl); (case valE_NoText => kernel_rfl)
    (case z_range => k_is); (case z_len => k_is); (case z_max => k_is); (case z_min => k_is); (case z_int => k_is); (case z_bool => k_is)
    (case z_str => k_is); (case z_list => k_is); (case z_tuple => k_is); (case z_dict => k_is); (case z_set => k_is); (case z_sum => k_is)
    (case z_sorted => k_is); (case z_enumerate => k_is); (case z_isinstance => k_is); (case z_reversed => k_is); (case z_repr => k_is); (case z_all => k_is)
    (case z_zip => k_is); (case z_ValueError => k_is); (case kx_MOST_FIGURES => k_is)
#print axioms PySem.Challenge.cw_leavings_k50_texts_of_no_list_holds
