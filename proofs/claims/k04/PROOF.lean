import PyProof.Rows.All
import Wide.All
import OpenK.AllK
import Wide.FinOn
import PyProof.EqAt
import PyProof.EqKinds
import PyProof.TupleCall
import KE.BitLaws
import PySem.Challenge.RW_leavings_k04_whole_rows_left
-- CHANGE: your row's module here, as the last of these rows
set_option Elab.async false
set_option linter.all false
set_option maxRecDepth 100000
namespace L2
open PySem PySem.Spec PyProof.Rows
/-- a key: an int or a str -/
abbrev Key := Sum Int Str
def keyIs : Key → Value → Bool
  | .inl k, v => Value.isInt k v
  | .inr x, v => Value.isStrOf x v
def keyH (w : World) : Key → Int
  | .inl k => hashInt k
  | .inr x => hashStr w x
theorem keyIs_shape : ∀ {k : Key} {v : Value}, keyIs k v = true → (∃ i t, k = Sum.inl i ∧ v = Value.int i t) ∨ (∃ x t, k = Sum.inr x ∧ v = Value.str x t)
  | .inl i, v, h => by
    obtain ⟨t, e⟩ := Value.isInt_shape (k := i) (v := v) h
    exact .inl ⟨i, t, rfl, e⟩
  | .inr x, v, h => by
    obtain ⟨t, e⟩ := Value.isStrOf_shape (x := x) (v := v) h
    exact .inr ⟨x, t, rfl, e⟩
theorem key_ll (a b : Int) : decide ((Sum.inl a : Key) = Sum.inl b) = (a == b) := by
  by_cases e : a = b
  · subst e; simp
  · have h : ¬ (Sum.inl a : Key) = Sum.inl b := fun q => e (Sum.inl.inj q)
    rw [decide_eq_false h]
    exact (beq_eq_false_iff_ne.mpr e).symm
theorem key_rr (a b : Str) : decide ((Sum.inr a : Key) = Sum.inr b) = decide (a = b) := by
  by_cases e : a = b
  · subst e; simp
  · have h : ¬ (Sum.inr a : Key) = Sum.inr b := fun q => e (Sum.inr.inj q)
    rw [decide_eq_false h, decide_eq_false e]
theorem key_lr (a : Int) (b : Str) : decide ((Sum.inl a : Key) = Sum.inr b) = false := decide_eq_false (fun q => nomatch q)
theorem key_rl (a : Str) (b : Int) : decide ((Sum.inr a : Key) = Sum.inl b) = false := decide_eq_false (fun q => nomatch q)
def mixKind (prog : Program) (w : World) : PySem.KeyKind prog w Key where
  is := keyIs
  hash := keyH w
  inj := fun v a b ha hb => by
    rcases keyIs_shape ha with ⟨i, t, rfl, rfl⟩ | ⟨x, t, rfl, rfl⟩
    · rcases keyIs_shape hb with ⟨j, u, rfl, e⟩ | ⟨y, u, rfl, e⟩
      · injection e with e1 _; rw [e1]
      · exact nomatch e
    · rcases keyIs_shape hb with ⟨j, u, rfl, e⟩ | ⟨y, u, rfl, e⟩
      · exact nomatch e
      · injection e with e1 _; rw [e1]
  byValue := fun k v h => by
    rcases keyIs_shape h with ⟨i, t, rfl, rfl⟩ | ⟨x, t, rfl, rfl⟩ <;> rfl
  pyHash := fun hv h => by
    rcases keyIs_shape hv with ⟨i, t, rfl, rfl⟩ | ⟨x, t, rfl, rfl⟩
    · exact wpAny_pyHash_int h
    · exact wpAny_pyHash_str h
  eqBool := fun hu hv h => by
    rcases keyIs_shape hu with ⟨i, t, rfl, rfl⟩ | ⟨x, t, rfl, rfl⟩
    · rcases keyIs_shape hv with ⟨j, u, rfl, rfl⟩ | ⟨y, u, rfl, rfl⟩
      · rw [key_ll] at h; exact wpAny_eqBool_int h
      · rw [key_lr] at h; exact SeqAt.EqAt.int_str i t y u _ _ _ _ h
    · rcases keyIs_shape hv with ⟨j, u, rfl, rfl⟩ | ⟨y, u, rfl, rfl⟩
      · rw [key_rl] at h; exact SeqAt.EqAt.str_int x t j u _ _ _ _ h
      · rw [key_rr] at h; exact wpAny_eqBool_str h
  «strs» := fun k x t v h => by
    rcases keyIs_shape h with ⟨i, u, rfl, e⟩ | ⟨y, u, rfl, e⟩
    · exact nomatch e
    · injection e with e1 _
      subst e1
      cases v <;> rfl
end L2
namespace L2
open PySem PySem.Spec PyProof.Rows
/-- a value, without the heap -/
inductive V where
  | non | bl (b : Bool) | int (i : Int) | str (x : Str) | byt (b : Array UInt8) | flt (b : UInt64) | ref (a : Addr) | ty (n : String)
  deriving DecidableEq
def RelV : V → Value → Prop
  | .non, u => u = Value.none
  | .bl b, u => u = Value.bool b
  | .int i, u => ∃ t, u = Value.int i t
  | .str x, u => ∃ t, u = Value.str x t
  | .byt b, u => ∃ t, u = Value.bytes b t
  | .flt b, u => ∃ t, u = Value.float b t
  | .ref a, u => u = Value.ref a
  | .ty n, u => u = Value.type n
abbrev Vals : List V → List Value → Prop := Paired RelV
theorem Vals.length {xs : List V} {us : List Value} (r : Vals xs us) : xs.length = us.length := Paired.length r
theorem Vals.get : ∀ {xs : List V} {us : List Value} {i : Nat} {x : V}, Vals xs us → xs[i]? = some x → ∃ u, us[i]? = some u ∧ RelV x u
  | _, _, _, _, .nil, e => by simp at e
  | _, _, 0, _, .cons r _, e => by simp at e; subst e; exact ⟨_, rfl, r⟩
  | _, _, i + 1, x, .cons _ t, e => by
    obtain ⟨u, h1, h2⟩ := Vals.get (i := i) (x := x) t (by simpa using e)
    exact ⟨u, by simpa using h1, h2⟩
theorem Vals.set {x : V} {u : Value} (r : RelV x u) : ∀ {xs : List V} {us : List Value} (i : Nat), Vals xs us → Vals (xs.set i x) (us.set i u)
  | _, _, _, .nil => .nil
  | _, _, 0, .cons _ t => .cons r t
  | _, _, i + 1, .cons q t => .cons q (Vals.set r i t)
theorem Vals.append : ∀ {xs ys : List V} {us ws : List Value}, Vals xs us → Vals ys ws → Vals (xs ++ ys) (us ++ ws)
  | _, _, _, _, .nil, s => s
  | _, _, _, _, .cons r t, s => .cons r (Vals.append t s)
theorem Vals.take : ∀ {xs : List V} {us : List Value} (n : Nat), Vals xs us → Vals (xs.take n) (us.take n)
  | _, _, 0, _ => .nil
  | _, _, _ + 1, .nil => .nil
  | _, _, n + 1, .cons r t => .cons r (Vals.take n t)
theorem Vals.drop : ∀ {xs : List V} {us : List Value} (n : Nat), Vals xs us → Vals (xs.drop n) (us.drop n)
  | _, _, 0, r => r
  | _, _, _ + 1, .nil => .nil
  | _, _, n + 1, .cons _ t => Vals.drop n t
def RelO : Option V → Option Value → Prop
  | some v, some u => RelV v u
  | none, none => True
  | _, _ => False
def KV {κ : Type} : List (κ × V) → List (κ × Value) → Prop := Paired fun (p : κ × V) (q : κ × Value) => p.1 = q.1 ∧ RelV p.2 q.2
/-- a key of a dict (00_mix): an int or a text -/
def kV : Key → V
  | .inl i => .int i
  | .inr x => .str x
/-- what stands at a tracked address -/
inductive HO where
  /-- a list -/
  | lst (xs : List V)
  /-- a tuple (never changes) -/
  | tup (xs : List V)
  /-- a dict whose keys are ints and texts; one whose keys are tuples of ints and texts (the empty one is both) -/
  | dK (kvs : List (Key × V)) | dT (kvs : List (List Key × V))
  /-- a set of ints: its members, its size -/
  | set (S : Int → Bool) (n : Nat)
  /-- an instance of the class at C, its dict at dx, its attributes -/
  | ins (C dx : Addr) (fs : List (Str × V))
  /-- the dict of the instance at x -/
  | own (x : Addr)
  /-- the dict of an exception -/
  | xd (fs : List (Str × V))
  /-- a bound method, f of x -/
  | met (f x : Addr)
  /-- a range object lo, lo + 1, .. below hi -/
  | rng (lo hi : Int)
  /-- a thing that is known to the object (the script; a dict while a loop walks it): read, never written while it is so -/
  | frz (o : Obj) (u : HO)
  /-- a code object's table -/
  | tbl (ps : Array Value)
  /-- any other thing, by what is true of its one object (a def of one's own: SetO a S n := HO.ext fun h => ..) -/
  | ext (φ : Heap → Prop)
abbrev Hp := Addr → Option HO
def upd (H : Hp) (a : Addr) (o : HO) : Hp := fun b => if b = a then some o else H b
theorem upd_same {H : Hp} {a : Addr} {o : HO} : upd H a o a = some o := by unfold upd; rw [if_pos rfl]
theorem upd_ne {H : Hp} {a b : Addr} {o : HO} (h : b ≠ a) : upd H a o b = H b := by unfold upd; rw [if_neg h]
/-- two objects of different content stand apart -/
theorem ne_of {H : Hp} {a b : Addr} {o u : HO} (h : H a = some o) (h' : H b = some u) (d : o ≠ u) : a ≠ b := by
  intro e; subst e; rw [h] at h'; exact d (Option.some.inj h')
theorem ne_of_none {H : Hp} {a b : Addr} {o : HO} (h : H a = some o) (h' : H b = none) : a ≠ b := by
  intro e; subst e; rw [h] at h'; cases h'
section
variable (P : Program) (w : World)
def ObjOk (H : Hp) (h : Heap) (a : Addr) : HO → Prop
  | .lst xs => xs.length ≤ sizeLine ∧ ∃ (its : List Value) (n : Nat), Vals xs its ∧ h.get? a = some { cls := .type "list", data := .seq its.toArray n }
  | .tup xs => xs.length ≤ sizeLine ∧ ∃ its : List Value, Vals xs its ∧ IsTup h a its.toArray
  | .dK kvs => kvs.length ≤ sizeLine ∧ (a == sysModules) = false ∧ ∃ vs, KV kvs vs ∧ h.DictOf (mixKind P w) a vs
  | .dT kvs => kvs.length ≤ sizeLine ∧ (a == sysModules) = false ∧ ∃ xs : List (List Key × Addr × Value),
      Paired (fun (p : List Key × V) (q : List Key × Addr × Value) => p.1 = q.1 ∧ H q.2.1 = some (.tup (p.1.map kV)) ∧ RelV p.2 q.2.2) kvs xs ∧
      ∃ o es ep, h.get? a = some o ∧ o.ExactDict ∧ o.data = .dict es ep ∧ es.toList = xs.map (entryOfKey (tupleKind (mixKind P w))) ∧ (xs.map (·.1)).Nodup
  | .set S n => h.SetOf (intKind P w) a S n
  | .ins C dx fs => H dx = some (.own a) ∧ fs.length ≤ 1000 ∧ dx ≠ a ∧ h.get? a = some (PySem.W.instObj C dx) ∧
      ∃ mA, h.Ns1 dx mA ∧ (∀ f, RelO (fs.lookup f) (mA f)) ∧ PySem.Within mA (fs.map (·.1))
  | .own _ => ∃ o, h.get? a = some o
  | .xd fs => ∃ mA, h.Ns1 a mA ∧ ∀ f, RelO (fs.lookup f) (mA f)
  | .rng lo hi => ∃ t u v, h.get? a = some { cls := .type "range", data := .fields #[.int lo t, .int hi u, .int 1 v] }
  | .frz o u => h.get? a = some o ∧ ObjOk H h a u
  | .tbl ps => h.get? a = some { cls := .none, data := .fields ps }
  | .met f x => h.get? a = some (PySem.W.methodObj (.ref f) (.ref x))
  | .ext φ => φ h ∧ (∃ o, h.get? a = some o) ∧ ∀ h1 h2 : Heap, φ h1 → (∀ o, h1.get? a = some o → h2.get? a = some o) → φ h2
/-- the abstract heap is held -/
def HOk (H : Hp) (h : Heap) : Prop := ∀ a o, H a = some o → ObjOk P w H h a o
end
section
variable {P : Program} {w : World} {H H' : Hp} {h h' : Heap} {a : Addr} {o : HO}
theorem ObjOk.lt (x : ObjOk P w H h a o) : a < h.objs.size := by
  cases o with
  | lst xs => obtain ⟨_, _, _, _, e⟩ := x; exact Heap.lt_size e
  | tup xs => obtain ⟨_, _, _, p⟩ := x; exact p.lt
  | dK kvs => obtain ⟨_, _, _, _, o, _, _, e, _⟩ := x; exact Heap.lt_size e
  | dT kvs => obtain ⟨_, _, _, _, o, _, _, e, _⟩ := x; exact Heap.lt_size e
  | set S n => obtain ⟨o, _, _, _, e, _⟩ := x; exact Heap.lt_size e
  | ins C dx fs => obtain ⟨_, _, _, e, _⟩ := x; exact Heap.lt_size e
  | own y => obtain ⟨_, e⟩ := x; exact Heap.lt_size e
  | xd fs => obtain ⟨_, ⟨_, _, _, e, _⟩, _⟩ := x; exact Heap.lt_size e
  | rng lo hi => obtain ⟨_, _, _, e⟩ := x; exact Heap.lt_size e
  | frz ob u => obtain ⟨e, _⟩ := x; exact Heap.lt_size e
  | tbl ps => exact Heap.lt_size (show h.get? a = some _ from x)
  | met f y => exact Heap.lt_size (show h.get? a = some _ from x)
  | ext φ => obtain ⟨_, ⟨_, e⟩, _⟩ := x; exact Heap.lt_size e
theorem Paired.mapP {α β : Type} {F G : α → β → Prop} : ∀ {l₁ : List α} {l₂ : List β}, Paired F l₁ l₂ → (∀ a b, F a b → G a b) → Paired G l₁ l₂
  | _, _, .nil, _ => .nil
  | _, _, .cons r t, f => .cons (f _ _ r) (Paired.mapP t f)
/-- what an object's description leans on: its own object, its own dict, the tuples -/
theorem ObjOk.stay (x : ObjOk P w H h a o) (k : ∀ b u, (b = a ∨ H b = some (.own a)) → h.get? b = some u → h'.get? b = some u)
    (ho : ∀ b, H b = some (.own a) → H' b = some (.own a)) (ht : ∀ b xs, H b = some (.tup xs) → H' b = some (.tup xs)) : ObjOk P w H' h' a o := by
  induction o with
  | lst xs => obtain ⟨z, its, n, r, e⟩ := x; exact ⟨z, its, n, r, k _ _ (.inl rfl) e⟩
  | tup xs => obtain ⟨z, its, r, ob, e, c⟩ := x; exact ⟨z, its, r, ob, k _ _ (.inl rfl) e, c⟩
  | dK kvs => obtain ⟨z, y, vs, r, ob, es, ep, e, c⟩ := x; exact ⟨z, y, vs, r, ob, es, ep, k _ _ (.inl rfl) e, c⟩
  | dT kvs =>
    obtain ⟨z, y, xs, r, ob, es, ep, e, c⟩ := x
    exact ⟨z, y, xs, Paired.mapP r fun p q z => ⟨z.1, ht _ _ z.2.1, z.2.2⟩, ob, es, ep, k _ _ (.inl rfl) e, c⟩
  | set S n => obtain ⟨ob, es, ep, t, e, c⟩ := x; exact ⟨ob, es, ep, t, k _ _ (.inl rfl) e, c⟩
  | ins C dx fs =>
    obtain ⟨d, z, ne, e, mA, ⟨od, es, ep, e2, c⟩, r⟩ := x
    exact ⟨ho _ d, z, ne, k _ _ (.inl rfl) e, mA, ⟨od, es, ep, k _ _ (.inr d) e2, c⟩, r⟩
  | own y => obtain ⟨ob, e⟩ := x; exact ⟨ob, k _ _ (.inl rfl) e⟩
  | xd fs => obtain ⟨mA, ⟨od, es, ep, e, c⟩, r⟩ := x; exact ⟨mA, ⟨od, es, ep, k _ _ (.inl rfl) e, c⟩, r⟩
  | rng lo hi => obtain ⟨t, u, v, e⟩ := x; exact ⟨t, u, v, k _ _ (.inl rfl) e⟩
  | frz ob u ih => obtain ⟨e, q⟩ := x; exact ⟨k _ _ (.inl rfl) e, ih q⟩
  | tbl ps =>
    have e : h.get? a = some { cls := .none, data := .fields ps } := x
    show h'.get? a = some { cls := .none, data := .fields ps }
    exact k a _ (.inl rfl) e
  | met f y =>
    have e : h.get? a = some (PySem.W.methodObj (.ref f) (.ref y)) := x
    show h'.get? a = some (PySem.W.methodObj (.ref f) (.ref y))
    exact k a _ (.inl rfl) e
  | ext φ => obtain ⟨p, ⟨o, e⟩, st⟩ := x; exact ⟨st _ _ p fun o q => k _ _ (.inl rfl) q, ⟨o, k _ _ (.inl rfl) e⟩, st⟩
theorem HOk.lt (x : HOk P w H h) (e : H a = some o) : a < h.objs.size := (x a o e).lt
theorem HOk.fresh (x : HOk P w H h) (e : h.objs.size ≤ a) : H a = none := by
  cases q : H a with
  | none => rfl
  | some u => exact absurd (Nat.lt_of_lt_of_le (x.lt q) e) (Nat.lt_irrefl _)
/-- every object of the heap is kept -/
theorem HOk.kept (x : HOk P w H h) (k : ∀ b u, h.get? b = some u → h'.get? b = some u) : HOk P w H h' := fun a o e =>
  (x a o e).stay (fun b u _ q => k b u q) (fun _ q => q) fun _ _ q => q
/-- a new object is laid and tracked -/
theorem HOk.laid (x : HOk P w H h) (k : ∀ b u, h.get? b = some u → h'.get? b = some u) (hp : h.objs.size ≤ a) (new : ObjOk P w (upd H a o) h' a o) : HOk P w (upd H a o) h' := fun b u e => by
  have hn := x.fresh hp
  by_cases hb : b = a
  · subst hb; rw [upd_same] at e; cases e; exact new
  · rw [upd_ne hb] at e
    exact (x b u e).stay (fun c v _ q => k c v q) (fun c q => by rw [upd_ne (ne_of_none q hn)]; exact q) fun c xs q => by rw [upd_ne (ne_of_none q hn)]; exact q
end
/-- what may be read as u: it is u, or a known u -/
def Rd (H : Hp) (a : Addr) (u : HO) : Prop := H a = some u ∨ ∃ o, H a = some (.frz o u)
theorem Rd.of {H : Hp} {a : Addr} {u : HO} (h : H a = some u) : Rd H a u := .inl h
theorem Rd.ok {P : Program} {w : World} {H : Hp} {h : Heap} {a : Addr} {u : HO} (r : Rd H a u) (x : HOk P w H h) : ObjOk P w H h a u := by
  rcases r with r | ⟨o, r⟩
  · exact x a u r
  · obtain ⟨_, q⟩ := x a _ r
    exact q
/-- what may be written -/
def Mut : Option HO → Prop
  | some (.lst _) => True
  | some (.dK _) => True
  | some (.dT _) => True
  | some (.set _ _) => True
  | some (.ins _ _ _) => True
  | some (.ext _) => True
  | _ => False
section
variable {P : Program} {w : World} {H : Hp} {h h' : Heap} {x e : Addr} {o' : HO}
/-- the object at e is changed: x itself, or the dict of the instance x -/
theorem HOk.write (ok : HOk P w H h) (mu : Mut (H x)) (he : e = x ∨ H e = some (.own x)) (k : ∀ b u, b ≠ e → h.get? b = some u → h'.get? b = some u) (heo : ∃ u, h'.get? e = some u)
    (new : ObjOk P w (upd H x o') h' x o') : HOk P w (upd H x o') h' := fun b u q => by
  have nown : ∀ c y, H c = some (.own y) → c ≠ x := fun c y r z => by subst z; rw [r] at mu; exact mu
  have ntup : ∀ c xs, H c = some (.tup xs) → c ≠ x := fun c xs r z => by subst z; rw [r] at mu; exact mu
  by_cases hb : b = x
  · subst hb; rw [upd_same] at q; cases q; exact new
  · rw [upd_ne hb] at q
    by_cases hbe : b = e
    · have q' : H b = some (.own x) := by
        rcases he with z | z
        · exact absurd (hbe.trans z) hb
        · rw [hbe]; exact z
      rw [q] at q'; cases q'
      obtain ⟨v, hv⟩ := heo
      exact ⟨v, by rw [hbe]; exact hv⟩
    · refine (ok b u q).stay (fun c v hc r => k c v ?_ r) (fun c r => by rw [upd_ne (nown c b r)]; exact r) fun c xs r => by rw [upd_ne (ntup c xs r)]; exact r
      rcases hc with rfl | hc
      · exact hbe
      · rintro rfl
        rcases he with z | z
        · exact nown c b hc z
        · rw [hc] at z; cases z; exact hb rfl
end
structure Un (fs ex : List Addr) (H H' : Hp) (h h' : Heap) : Prop where
  keep : ∀ b o, h.get? b = some o → H b = none → b ∉ fs → b ∉ ex → h'.get? b = some o
  slot : ∀ b o, h.get? b = some o → H b = none → b ∈ fs → b ∉ ex → ∃ sl, h'.get? b = some { o with slots := sl }
  free : ∀ b o, h.get? b = some o → H b = none → b ∉ ex → H' b = none
  there : ∀ b o, h.get? b = some o → b ∉ ex → ∃ o', h'.get? b = some o'
  tups : ∀ b xs, H b = some (.tup xs) → H' b = some (.tup xs)
  frzs : ∀ b o u, H b = some (.frz o u) → H' b = some (.frz o u)
  tbls : ∀ b ps, H b = some (.tbl ps) → ∃ more, H' b = some (.tbl (ps ++ more))
section
variable {fs fs' ex ex' : List Addr} {H H1 H2 : Hp} {h h1 h2 h' : Heap} {a x e : Addr} {o : HO}
theorem Un.any (u : Un fs ex H H1 h h1) {b : Addr} {ob : Obj} (q : h.get? b = some ob) (n : H b = none) (hx : b ∉ ex) : ∃ sl, h1.get? b = some { ob with slots := sl } := by
  by_cases hb : b ∈ fs
  · exact u.slot b ob q n hb hx
  · exact ⟨ob.slots, u.keep b ob q n hb hx⟩
theorem Un.trans (a : Un fs ex H H1 h h1) (b : Un fs ex H1 H2 h1 h2) : Un fs ex H H2 h h2 where
  keep := fun c ob q n hc hx => b.keep c ob (a.keep c ob q n hc hx) (a.free c ob q n hx) hc hx
  slot := fun c ob q n hc hx => by
    obtain ⟨sl, e1⟩ := a.slot c ob q n hc hx
    obtain ⟨sl', e2⟩ := b.slot c _ e1 (a.free c ob q n hx) hc hx
    exact ⟨sl', e2⟩
  free := fun c ob q n hx => by
    obtain ⟨o', e1⟩ := a.there c ob q hx
    exact b.free c o' e1 (a.free c ob q n hx) hx
  there := fun c ob q hx => by
    obtain ⟨o', e1⟩ := a.there c ob q hx
    exact b.there c o' e1 hx
  tups := fun c xs q => b.tups c xs (a.tups c xs q)
  frzs := fun c ob xs q => b.frzs c ob xs (a.frzs c ob xs q)
  tbls := fun c ps q => by
    obtain ⟨m1, e1⟩ := a.tbls c ps q
    obtain ⟨m2, e2⟩ := b.tbls c _ e1
    exact ⟨m1 ++ m2, by rw [e2, Array.append_assoc]⟩
theorem Un.kept (k : ∀ b u, h.get? b = some u → h'.get? b = some u) : Un fs ex H H h h' :=
  ⟨fun b ob q _ _ _ => k b ob q, fun b ob q _ _ _ => ⟨ob.slots, k b ob q⟩, fun _ _ _ n _ => n, fun b ob q _ => ⟨ob, k b ob q⟩, fun _ _ q => q, fun _ _ _ q => q, fun _ ps q => ⟨#[], by rw [q]; simp⟩⟩
theorem Un.refl : Un fs ex H H h h := Un.kept fun _ _ q => q
theorem Un.laid (k : ∀ b u, h.get? b = some u → h'.get? b = some u) (hp : h.objs.size ≤ a) (hn : H a = none) : Un fs ex H (upd H a o) h h' where
  keep := fun b u q _ _ _ => k b u q
  slot := fun b u q _ _ _ => ⟨u.slots, k b u q⟩
  free := fun b u q n _ => by rw [upd_ne (Nat.ne_of_lt (Nat.lt_of_lt_of_le (Heap.lt_size q) hp))]; exact n
  there := fun b u q _ => ⟨u, k b u q⟩
  tups := fun b xs q => by rw [upd_ne (ne_of_none q hn)]; exact q
  frzs := fun b u xs q => by rw [upd_ne (ne_of_none q hn)]; exact q
  tbls := fun b ps q => ⟨#[], by rw [upd_ne (ne_of_none q hn), q]; simp⟩
theorem Un.write (mu : Mut (H x)) (he : e = x ∨ H e = some (.own x)) (k : ∀ b u, b ≠ e → h.get? b = some u → h'.get? b = some u) (heo : ∃ u, h'.get? e = some u) : Un fs ex H (upd H x o) h h' := by
  have hx : ∀ b, H b = none → b ≠ x := fun b n z => by subst z; rw [n] at mu; exact mu
  have hb : ∀ b, H b = none → b ≠ e := fun b n z => by
    subst z
    rcases he with r | r
    · exact hx b n r
    · rw [n] at r; cases r
  have hm : ∀ b u, H b = some u → ¬ Mut (some u) → b ≠ x := fun b u q nm z => by subst z; rw [q] at mu; exact nm mu
  refine ⟨fun b u q n _ _ => k b u (hb b n) q, fun b u q n _ _ => ⟨u.slots, k b u (hb b n) q⟩, fun b u q n _ => by rw [upd_ne (hx b n)]; exact n, fun b u q _ => ?_,
    fun b xs q => by rw [upd_ne (hm b _ q fun z => z)]; exact q, fun b u xs q => by rw [upd_ne (hm b _ q fun z => z)]; exact q, fun b ps q => ⟨#[], by rw [upd_ne (hm b _ q fun z => z), q]; simp⟩⟩
  by_cases hbe : b = e
  · subst hbe; exact heo
  · exact ⟨u, k b u hbe q⟩
theorem Un.mono (u : Un fs ex H H1 h h1) (hs : ∀ b ∈ fs, b ∈ fs') (hx : ∀ b ∈ ex, b ∈ ex') : Un fs' ex' H H1 h h1 :=
  ⟨fun b ob q n hb he => u.keep b ob q n (fun z => hb (hs b z)) fun z => he (hx b z), fun _ _ q n _ he => u.any q n fun z => he (hx _ z), fun b ob q n he => u.free b ob q n fun z => he (hx b z), fun b ob q he => u.there b ob q fun z => he (hx b z), u.tups, u.frzs, u.tbls⟩
end
def trk (h : Heap) (H : Hp) : List Addr := (List.range h.objs.size).filter fun a => (H a).isSome
def hidT (h : Heap) (H : Hp) : Heap := PySem.W.hideAll h (trk h H)
theorem hidT_size (h : Heap) (H : Hp) : (hidT h H).objs.size = h.objs.size := PySem.W.hideAll_size _ _
theorem hidT_get {h : Heap} {H : Hp} {b : Addr} {o : Obj} (e : h.get? b = some o) (n : H b = none) : (hidT h H).get? b = some o :=
  PySem.W.hideAll_get _ e fun hm => by
    have q : (H b).isSome = true := (List.mem_filter.mp hm).2
    rw [n] at q; simp at q
theorem of_hidT {h : Heap} {H : Hp} {b : Addr} {o : Obj} (e : (hidT h H).get? b = some o) : h.get? b = some o ∧ H b = none := by
  have e' : h.get? b = some o := PySem.W.of_hideAll (trk h H) e
  refine ⟨e', ?_⟩
  cases q : H b with
  | none => rfl
  | some x =>
    have hm : b ∈ trk h H := List.mem_filter.mpr ⟨List.mem_range.mpr (Heap.lt_size e'), by simp [q]⟩
    have z : (hidT h H).get? b = none := PySem.W.hideAll_none (trk h H) hm
    rw [z] at e; cases e
def allNews (g h : Heap) (L : Addr) : List (Addr × Obj) := (List.range h.objs.size).filterMap fun a => if a = L ∨ (g.get? a).isSome = true then none else (h.get? a).map fun o => (a, o)
def rest (g h : Heap) (L d : Addr) : List (Addr × Obj) := (allNews g h L).filter fun p => decide (p.1 ≠ d)
end L2
namespace L2
open PySem PySem.Spec PyProof.Rows
/-- the module's facts, over the base: the heap at the law's entry without what is tracked there -/
structure Mod (K : PySem.W.Frag) (mg : Str → Option Value) (base : Heap) : Prop where
  kin : K.In base
  glob : base.Ns mainGlobals mg
  blt : ∃ mb, base.Ns builtinsNs mb ∧ ∀ x : Str, x ≠ "__name__" → mb x = bootBuiltins x
  nolimit : base.NoLimit
/-- the context: a def's body (or a comprehension's block) running. base: fixed through the whole law; s₀, H₀: the entry; outer: the frames whose slots others may change (a def's callers); stack: all frames that run;
   ex: iterators that were made ahead of the entry and are walked here (a comprehension's); fn: the names whose cells were made at the entry (a def: all; a comprehension's block: its own); calm: not within an except suite; pn: pins that every state bears; xe: what is wanted of an exception that leaves the code -/
structure Cx where
  prog : Program
  w : World
  K : PySem.W.Frag
  mg : Str → Option Value
  base : Heap
  A : Around
  N : List Str
  s_0 : Shared
  H_0 : Hp
  env : Env
  outer : List Env
  stack : List Env
  ex : List Addr
  fn : Str → Bool
  calm : Bool
  pn : List (Addr × Obj)
  xe : Value → Shared → Prop
/-- the callers' frames -/
def frs (l : List Env) : List Addr := l.filterMap (·.frame)
abbrev Cx.fs (X : Cx) : List Addr := frs X.outer
def Vis (sc : Scope) (x : Str) : Prop := sc.names.lookup x = some .local ∨ sc.names.lookup x = some .cell ∨ sc.names.lookup x = some .free
def Loc (sc : Scope) (x : Str) : Prop := sc.names.lookup x = some .local ∨ sc.names.lookup x = some .cell
def Look (env : Env) (h : Heap) (m : Str → Option Value) (x : Str) (u : Value) : Prop :=
  (env.kindOf x = some .local ∧ m x = some u) ∨ ((env.kindOf x = some .cell ∨ env.kindOf x = some .free) ∧ ∃ c, env.cells.lookup x = some c ∧ h.IsCell c (some u))
structure Cx.Ok (X : Cx) : Prop where
  mod : Mod X.K X.mg X.base
  kind : X.env.scope.kind = .function
  glob : X.env.globals = mainGlobals
  blt : X.env.builtins = builtinsNs
  above : X.s_0.heap.objs.size ≤ X.env.locals
  inj : ∀ x y c, X.env.cells.lookup x = some c → X.env.cells.lookup y = some c → x = y
  has : ∀ x, (X.env.kindOf x = some .cell ∨ X.env.kindOf x = some .free) → ∃ c, X.env.cells.lookup x = some c
  cab : ∀ x c, X.fn x = true → X.env.cells.lookup x = some c → X.s_0.heap.objs.size ≤ c
  hd : X.calm = true → X.A.handled = none
  frames : X.A.frames = some X.stack
  stk : X.stack = X.outer ∨ (X.stack = X.env :: X.outer ∧ X.env.frame = some X.env.locals)
  exf : ∀ b ∈ X.ex, b ≠ X.env.locals ∧ ∀ x c, X.env.cells.lookup x = some c → c ≠ b
  bs : ∀ b o, X.base.get? b = some o → X.s_0.heap.get? b = some o ∧ X.H_0 b = none
  bsz : X.base.objs.size ≤ X.s_0.heap.objs.size
  noex : ∀ b o, X.base.get? b = some o → b ∉ X.ex
  exfs : ∀ b ∈ X.ex, b ∉ X.fs
  funs : X.s_0.heap.FunFrames X.base X.outer
  frf : ∀ b ∈ X.fs, X.H_0 b = none
structure Inv (X : Cx) (pins : List (Addr × Obj)) (σ : List (Option V)) (H : Hp) (s : Shared) : Prop where
  ok : X.Ok
  os : s.os = X.s_0.os
  bare : AllBare s.gens
  base : Un X.fs X.ex X.H_0 H X.s_0.heap s.heap
  loc : ∃ m, s.heap.Ns X.env.locals m ∧ ∀ (i : Nat) (x : Str) (v : V), X.N[i]? = some x → σ[i]? = some (some v) → Vis X.env.scope x → ∃ u, RelV v u ∧ Look X.env s.heap m x u
  cell : ∀ x c, X.env.cells.lookup x = some c → ∃ v, s.heap.IsCell c v
  free : H X.env.locals = none
  freeC : ∀ x c, X.env.cells.lookup x = some c → H c = none
  pin : ∀ p ∈ X.pn ++ pins, s.heap.get? p.1 = some p.2 ∧ H p.1 = none ∧ p.1 ≠ X.env.locals ∧ p.1 ∉ X.fs ∧ ∀ v, p.2.data ≠ .cell v
  hok : HOk X.prog X.w H s.heap
  len : σ.length = X.N.length
section
variable {X : Cx} {pins : List (Addr × Obj)} {σ : List (Option V)} {H H' : Hp} {s : Shared} {h' : Heap}
theorem Cx.Ok.nofr (ok : X.Ok) {b : Addr} {o : Obj} (e : X.base.get? b = some o) : b ∉ X.fs := fun hb => by
  have := (ok.funs.mem hb).1
  rw [e] at this; cases this
theorem Inv.bs (I : Inv X pins σ H s) : ∀ b o, X.base.get? b = some o → s.heap.get? b = some o ∧ H b = none := fun b o e =>
  ⟨I.base.keep b o (I.ok.bs b o e).1 (I.ok.bs b o e).2 (I.ok.nofr e) (I.ok.noex b o e), I.base.free b o (I.ok.bs b o e).1 (I.ok.bs b o e).2 (I.ok.noex b o e)⟩
theorem Inv.bk (I : Inv X pins σ H s) : ∀ b o, X.base.get? b = some o → s.heap.get? b = some o := fun b o e => (I.bs b o e).1
theorem Inv.mod (I : Inv X pins σ H s) : Mod X.K X.mg X.base := I.ok.mod
theorem Inv.kIn (I : Inv X pins σ H s) : X.K.In s.heap := I.ok.mod.kin.keeps I.bk
theorem Inv.nolimit (I : Inv X pins σ H s) : s.heap.NoLimit := I.ok.mod.nolimit.keeps I.bk
theorem Inv.lt (I : Inv X pins σ H s) : X.env.locals < s.heap.objs.size := let ⟨_, hn, _⟩ := I.loc; hn.lt
theorem Inv.sz (I : Inv X pins σ H s) : X.s_0.heap.objs.size ≤ s.heap.objs.size := Nat.le_trans I.ok.above (Nat.le_of_lt I.lt)
theorem Inv.nofs (I : Inv X pins σ H s) {a : Addr} (h : s.heap.objs.size ≤ a) : a ∉ X.fs := fun hb => by
  obtain ⟨_, o, ho, _⟩ := I.ok.funs.mem hb
  exact absurd (Nat.lt_of_lt_of_le (Heap.lt_size ho) (Nat.le_trans I.sz h)) (Nat.lt_irrefl _)
theorem Inv.cne (I : Inv X pins σ H s) : ∀ x c, X.env.cells.lookup x = some c → c ≠ X.env.locals := fun x c e z => by
  obtain ⟨v, o, ho, hd⟩ := I.cell x c e
  obtain ⟨m, ⟨o', es, ep, ho', hd', _⟩, _⟩ := I.loc
  rw [z, ho'] at ho; cases ho; rw [hd'] at hd; cases hd
theorem Inv.funs (I : Inv X pins σ H s) : s.heap.FunFrames X.base X.outer := by
  have all : ∀ (l : List Env), (∀ b ∈ frs l, b ∈ X.fs) → X.s_0.heap.FunFrames X.base l → s.heap.FunFrames X.base l := by
    intro l
    induction l with
    | nil => intro _ _; trivial
    | cons env r ih =>
      intro hs hl
      obtain ⟨hk, ⟨L, o, hf, hn, ho, hd⟩, hr⟩ := hl
      have hL : L ∈ X.fs := hs L (by unfold frs; rw [List.filterMap_cons, hf]; exact List.mem_cons_self)
      obtain ⟨sl, e⟩ := I.base.slot L o ho (I.ok.frf L hL) hL fun z => I.ok.exfs L z hL
      exact ⟨hk, ⟨L, _, hf, hn, e, hd⟩, ih (fun b hb => hs b (by unfold frs; rw [List.filterMap_cons, hf]; exact List.mem_cons_of_mem _ hb)) hr⟩
  exact all X.outer (fun _ hb => hb) I.ok.funs
/-- the frames that run, for a call -/
theorem Inv.stack (I : Inv X pins σ H s) : s.heap.FunFrames X.base X.stack := by
  rcases I.ok.stk with e | ⟨e, hf⟩
  · rw [e]; exact I.funs
  · rw [e]
    obtain ⟨m, hn, _⟩ := I.loc
    refine .cons (by rw [I.ok.kind]; decide) hf hn ?_ I.funs
    exact Heap.get?_none_of_le (Nat.le_trans I.ok.bsz I.ok.above)
theorem Inv.stkSub (I : Inv X pins σ H s) : ∀ b ∈ frs X.stack, b ∈ X.env.locals :: X.fs := fun b hb => by
  rcases I.ok.stk with e | ⟨e, hf⟩
  · rw [e] at hb; exact List.mem_cons_of_mem _ hb
  · rw [e] at hb
    unfold frs at hb
    rw [List.filterMap_cons, hf] at hb
    exact hb
theorem Inv.stkFree (I : Inv X pins σ H s) : ∀ b ∈ frs X.stack, H b = none := fun b hb => by
  rcases List.mem_cons.mp (I.stkSub b hb) with e | hb
  · rw [e]; exact I.free
  · obtain ⟨_, o, ho, _⟩ := I.ok.funs.mem hb
    exact I.base.free b o ho (I.ok.frf b hb) fun z => I.ok.exfs b z hb
/-- THE STEP: the untracked objects but the frame and the records at ch are kept (the callers' frames up to slots), the frame's map is kept, the new abstract heap is held -/
theorem Inv.step {g' : Array GenState} {t' : Nat} {d' : Drawn} {ch : List Addr} (I : Inv X pins σ H s)
    (hch : ∀ b ∈ ch, (b ∈ X.ex ∨ X.s_0.heap.objs.size ≤ b) ∧ b ≠ X.env.locals ∧ (∀ x c, X.env.cells.lookup x = some c → c ≠ b) ∧ ∀ p ∈ X.pn ++ pins, p.1 ≠ b)
    (keep : ∀ b o, b ≠ X.env.locals → b ∉ X.fs → b ∉ ch → s.heap.get? b = some o → H b = none → h'.get? b = some o)
    (slot : ∀ b o, b ≠ X.env.locals → b ∈ X.fs → b ∉ ch → s.heap.get? b = some o → H b = none → ∃ sl, h'.get? b = some { o with slots := sl }) (free : ∀ b o, b ∉ ch → s.heap.get? b = some o → H b = none → H' b = none)
    (there : ∀ b o, b ∉ ch → s.heap.get? b = some o → ∃ o', h'.get? b = some o')
    (tups : ∀ b xs, H b = some (.tup xs) → H' b = some (.tup xs)) (frzs : ∀ b o u, H b = some (.frz o u) → H' b = some (.frz o u)) (tbls : ∀ b ps, H b = some (.tbl ps) → ∃ more, H' b = some (.tbl (ps ++ more)))
    (ns : ∀ m, s.heap.Ns X.env.locals m → h'.Ns X.env.locals m) (hok : HOk X.prog X.w H' h') (hg : AllBare g') :
    Inv X pins σ H' { s with heap := h', gens := g', drawn := d', toks := t' } := by
  have neL : ∀ b o, X.s_0.heap.get? b = some o → b ≠ X.env.locals := fun b o e => Nat.ne_of_lt (Nat.lt_of_lt_of_le (Heap.lt_size e) I.ok.above)
  have neC : ∀ b o, X.s_0.heap.get? b = some o → b ∉ X.ex → b ∉ ch := fun b o e hx hb => by
    rcases (hch b hb).1 with z | z
    · exact hx z
    · exact absurd (Nat.lt_of_lt_of_le (Heap.lt_size e) z) (Nat.lt_irrefl _)
  have cellK : ∀ x c, X.env.cells.lookup x = some c → ∀ v, s.heap.IsCell c v → h'.IsCell c v := fun x c e v ⟨o, ho, hd⟩ => by
    have nch : c ∉ ch := fun z => (hch c z).2.2.1 x c e rfl
    by_cases hc : c ∈ X.fs
    · obtain ⟨sl, q⟩ := slot c o (I.cne x c e) hc nch ho (I.freeC x c e)
      exact ⟨_, q, hd⟩
    · exact ⟨o, keep c o (I.cne x c e) hc nch ho (I.freeC x c e), hd⟩
  refine ⟨I.ok, I.os, hg, ⟨fun b o e n hb hx => ?_, fun b o e n hb hx => ?_, fun b o e n hx => ?_, fun b o e hx => ?_, fun b xs e => tups b xs (I.base.tups b xs e), fun b o xs e => frzs b o xs (I.base.frzs b o xs e), fun b ps e => ?_⟩, ?_, fun x c e => ?_, ?_, fun x c e => ?_, fun p hp => ?_, hok, I.len⟩
  · exact keep b o (neL b o e) hb (neC b o e hx) (I.base.keep b o e n hb hx) (I.base.free b o e n hx)
  · obtain ⟨sl, e1⟩ := I.base.slot b o e n hb hx
    obtain ⟨sl', e2⟩ := slot b _ (neL b o e) hb (neC b o e hx) e1 (I.base.free b o e n hx)
    exact ⟨sl', e2⟩
  · obtain ⟨o', e1⟩ := I.base.there b o e hx
    exact free b o' (neC b o e hx) e1 (I.base.free b o e n hx)
  · obtain ⟨o', e1⟩ := I.base.there b o e hx
    exact there b o' (neC b o e hx) e1
  · obtain ⟨m1, e1⟩ := I.base.tbls b ps e
    obtain ⟨m2, e2⟩ := tbls b _ e1
    exact ⟨m1 ++ m2, by rw [e2, Array.append_assoc]⟩
  · obtain ⟨m, hn, hl⟩ := I.loc
    refine ⟨m, ns m hn, fun i x v e1 e2 e3 => ?_⟩
    obtain ⟨u, r, l⟩ := hl i x v e1 e2 e3
    refine ⟨u, r, ?_⟩
    rcases l with l | ⟨k, c, e, z⟩
    · exact .inl l
    · exact .inr ⟨k, c, e, cellK x c e _ z⟩
  · obtain ⟨v, z⟩ := I.cell x c e
    exact ⟨v, cellK x c e v z⟩
  · obtain ⟨m, ⟨o, _, _, ho, _⟩, _⟩ := I.loc
    exact free _ o (fun z => (hch _ z).2.1 rfl) ho I.free
  · obtain ⟨v, o, ho, hd⟩ := I.cell x c e
    exact free c o (fun z => (hch c z).2.2.1 x c e rfl) ho (I.freeC x c e)
  · obtain ⟨e, n, ne, nf, d⟩ := I.pin p hp
    have nch : p.1 ∉ ch := fun z => (hch p.1 z).2.2.2 p hp rfl
    exact ⟨keep p.1 p.2 ne nf nch e n, free p.1 p.2 nch e n, ne, nf, d⟩
/-- .. where the frame's own object is kept too -/
theorem Inv.un {t' : Nat} (I : Inv X pins σ H s) (u : Un X.fs [] H H' s.heap h') (hok : HOk X.prog X.w H' h') : Inv X pins σ H' { s with heap := h', toks := t' } := by
  obtain ⟨m, ⟨o, es, ep, ho, r⟩, _⟩ := id I.loc
  obtain ⟨sl, hL⟩ := u.any ho I.free (by simp)
  exact I.step (g' := s.gens) (d' := s.drawn) (ch := []) (fun _ z => nomatch z) (fun b o _ hb _ e n => u.keep b o e n hb (by simp)) (fun b o _ hb _ e n => u.slot b o e n hb (by simp)) (fun b o _ e n => u.free b o e n (by simp)) (fun b o _ e => u.there b o e (by simp)) u.tups u.frzs u.tbls (fun m' hm => by
    obtain ⟨o', es', ep', ho', r'⟩ := hm
    rw [ho] at ho'; cases ho'
    exact ⟨_, es', ep', hL, r'⟩) hok I.bare
/-- behind a call (or a comprehension's block): the slots of this frame may have changed too, the records at ch may have turned -/
theorem Inv.call {g' : Array GenState} {t' : Nat} {d' : Drawn} {ch : List Addr} (I : Inv X pins σ H s) (u : Un (frs X.stack) ch H H' s.heap h') (hok : HOk X.prog X.w H' h') (hg : AllBare g')
    (hch : ∀ b ∈ ch, (b ∈ X.ex ∨ X.s_0.heap.objs.size ≤ b) ∧ b ≠ X.env.locals ∧ (∀ x c, X.env.cells.lookup x = some c → c ≠ b) ∧ ∀ p ∈ X.pn ++ pins, p.1 ≠ b) :
    Inv X pins σ H' { s with heap := h', gens := g', drawn := d', toks := t' } := by
  obtain ⟨m, ⟨o, es, ep, ho, r⟩, _⟩ := id I.loc
  obtain ⟨sl, hL⟩ := u.any ho I.free fun z => (hch _ z).2.1 rfl
  exact I.step (ch := ch) hch (fun b o hL hb hc e n => u.keep b o e n (fun z => (List.mem_cons.mp (I.stkSub b z)).elim hL hb) hc) (fun b o _ _ hc e n => u.any e n hc) (fun b o hc e n => u.free b o e n hc) (fun b o hc e => u.there b o e hc) u.tups u.frzs u.tbls (fun m' hm => by
    obtain ⟨o', es', ep', ho', r'⟩ := hm
    rw [ho] at ho'; cases ho'
    exact ⟨_, es', ep', hL, r'⟩) hok hg
/-- an untracked record of ours (an iterator) has turned -/
theorem Inv.turned {t' : Nat} {it : Addr} (I : Inv X pins σ H s) (k : ∀ b o, b ≠ it → s.heap.get? b = some o → h'.get? b = some o) (hn : H it = none) (hL : it ≠ X.env.locals)
    (h1 : it ∈ X.ex ∨ X.s_0.heap.objs.size ≤ it) (h2 : ∀ x c, X.env.cells.lookup x = some c → c ≠ it) (h3 : ∀ p ∈ X.pn ++ pins, p.1 ≠ it) : Inv X pins σ H { s with heap := h', toks := t' } := by
  have nit : ∀ b u, H b = some u → b ≠ it := fun b u e z => by rw [z, hn] at e; cases e
  refine I.step (g' := s.gens) (d' := s.drawn) (ch := [it]) (fun b hb => ?_) (fun b o _ _ hc e _ => k b o (fun z => hc (by simp [z])) e) (fun b o _ _ hc e _ => ⟨o.slots, k b o (fun z => hc (by simp [z])) e⟩) (fun _ _ _ _ n => n)
    (fun b o hc e => ⟨o, k b o (fun z => hc (by simp [z])) e⟩) (fun _ _ e => e) (fun _ _ _ e => e) (fun b ps e => ⟨#[], by rw [e]; simp⟩) (fun m hm => ?_) (fun b u e => ?_) I.bare
  · have e : b = it := by simpa using hb
    subst e
    exact ⟨h1, hL, h2, h3⟩
  · obtain ⟨o, es, ep, ho, r⟩ := hm
    exact ⟨o, es, ep, k _ o (Ne.symm hL) ho, r⟩
  · refine (I.hok b u e).stay (fun c v hc q => k c v ?_ q) (fun _ q => q) fun _ _ q => q
    rcases hc with z | z
    · rw [z]; exact nit b u e
    · exact nit c _ z
theorem Inv.tok (I : Inv X pins σ H s) (t : Nat) : Inv X pins σ H { s with toks := t } := I.un (h' := s.heap) (t' := t) Un.refl I.hok
/-- all objects kept -/
theorem Inv.kept {t' : Nat} (I : Inv X pins σ H s) (k : ∀ b u, s.heap.get? b = some u → h'.get? b = some u) : Inv X pins σ H { s with heap := h', toks := t' } := I.un (Un.kept k) (I.hok.kept k)
/-- a new object laid and tracked -/
theorem Inv.laid {a : Addr} {o : HO} {t' : Nat} (I : Inv X pins σ H s) (k : ∀ b u, s.heap.get? b = some u → h'.get? b = some u) (hp : s.heap.objs.size ≤ a) (new : ObjOk X.prog X.w (upd H a o) h' a o) :
    Inv X pins σ (upd H a o) { s with heap := h', toks := t' } := I.un (Un.laid k hp (I.hok.fresh hp)) (I.hok.laid k hp new)
/-- an object written -/
theorem Inv.write {x e : Addr} {o : HO} {t' : Nat} (I : Inv X pins σ H s) (mu : Mut (H x)) (he : e = x ∨ H e = some (.own x)) (k : ∀ b u, b ≠ e → s.heap.get? b = some u → h'.get? b = some u) (heo : ∃ u, h'.get? e = some u)
    (new : ObjOk X.prog X.w (upd H x o) h' x o) : Inv X pins σ (upd H x o) { s with heap := h', toks := t' } := I.un (Un.write mu he k heo) (I.hok.write mu he k heo new)
/-- forgetting slots, pins -/
theorem Inv.weak {σ' : List (Option V)} (I : Inv X pins σ H s) (hl : σ'.length = σ.length) (w : ∀ (i : Nat) v, σ'[i]? = some (some v) → σ[i]? = some (some v)) : Inv X pins σ' H s :=
  ⟨I.ok, I.os, I.bare, I.base, let ⟨m, hn, hl'⟩ := I.loc; ⟨m, hn, fun i x v e1 e2 e3 => hl' i x v e1 (w i v e2) e3⟩, I.cell, I.free, I.freeC, I.pin, I.hok, hl.trans I.len⟩
theorem Inv.pins_of {pins' : List (Addr × Obj)} (I : Inv X pins σ H s) (h : ∀ p ∈ pins', s.heap.get? p.1 = some p.2 ∧ H p.1 = none ∧ p.1 ≠ X.env.locals ∧ p.1 ∉ X.fs ∧ ∀ v, p.2.data ≠ .cell v) : Inv X pins' σ H s :=
  ⟨I.ok, I.os, I.bare, I.base, I.loc, I.cell, I.free, I.freeC, fun p hp => (List.mem_append.mp hp).elim (fun z => I.pin p (List.mem_append_left _ z)) (h p), I.hok, I.len⟩
theorem nodup_ix {N : List Str} (hN : N.Nodup) {i j : Nat} {x : Str} (a : N[i]? = some x) (b : N[j]? = some x) : i = j := by
  obtain ⟨h1, e1⟩ := List.getElem?_eq_some_iff.mp a
  obtain ⟨h2, e2⟩ := List.getElem?_eq_some_iff.mp b
  exact (List.getElem_inj hN).mp (e1.trans e2.symm)
/-- a name is stored; what changed -/
theorem store_ok2 {M : Model} {A : Around} {E : Value → Shared → Prop} {i : Nat} {x : Str} {v : V} {u : Value} {Q : Unit → Shared → Prop} (I : Inv X pins σ H s) (hN : X.N.Nodup) (hi : X.N[i]? = some x) (hx : Loc X.env.scope x) (r : RelV v u)
    (h : ∀ s', Inv X pins (σ.set i (some v)) H s' → (∃ a, Heap.SameBut a s.heap s'.heap ∧ (a = X.env.locals ∨ X.env.cells.lookup x = some a)) → Q () s') (hf : X.fn x = true ∨ X.env.scope.names.lookup x = some .local := by first | exact .inl rfl | exact .inr rfl | assumption) : wpAny M A (storeName X.env x u) Q E s := by
  obtain ⟨m, hn, hl⟩ := id I.loc
  have hcls : (X.env.scope.kind == .class || (X.env.scope.kind == .module && X.env.locals != X.env.globals)) = false := by rw [I.ok.kind]; rfl
  have hiσ : i < σ.length := by rw [I.len]; exact (List.getElem?_eq_some_iff.mp hi).1
  have cne := I.cne
  have tracked : ∀ {a : Addr} {h' : Heap}, (∃ o, s.heap.get? a = some o ∧ H a = none) → Heap.SameBut a s.heap h' → HOk X.prog X.w H h' := fun {a h'} ha hs b ob e => by
    obtain ⟨_, _, hfree⟩ := ha
    refine (I.hok b ob e).stay (fun c w' hc q => (hs.2 c ?_).trans q) (fun _ q => q) fun _ _ q => q
    rintro rfl
    rcases hc with rfl | hc
    · rw [hfree] at e; cases e
    · rw [hfree] at hc; cases hc
  rcases hx with hk | hk
  · refine wpAny_storeName_local hk hn (fun h' hn' hs => ?_) hcls
    obtain ⟨oL, _, _, hoL, _⟩ := id hn
    refine h _ ⟨I.ok, I.os, I.bare, ⟨fun b o e n hb hx => ?_, fun b o e n hb hx => ?_, I.base.free, fun b o e hx => ?_, I.base.tups, I.base.frzs, I.base.tbls⟩, ⟨_, hn', fun j y v' e1 e2 e3 => ?_⟩, fun y c e => ?_, I.free, I.freeC, fun p hp => ?_, tracked ⟨oL, hoL, I.free⟩ hs, by simpa using I.len⟩ ⟨_, hs, .inl rfl⟩
    · exact (hs.2 b (Nat.ne_of_lt (Nat.lt_of_lt_of_le (Heap.lt_size e) I.ok.above))).trans (I.base.keep b o e n hb hx)
    · obtain ⟨sl, e1⟩ := I.base.slot b o e n hb hx
      exact ⟨sl, (hs.2 b (Nat.ne_of_lt (Nat.lt_of_lt_of_le (Heap.lt_size e) I.ok.above))).trans e1⟩
    · obtain ⟨o', e1⟩ := I.base.there b o e hx
      exact ⟨o', (hs.2 b (Nat.ne_of_lt (Nat.lt_of_lt_of_le (Heap.lt_size e) I.ok.above))).trans e1⟩
    · by_cases hj : j = i
      · subst hj
        rw [hi] at e1; cases e1
        rw [List.getElem?_set_self hiσ] at e2
        cases e2
        exact ⟨u, r, .inl ⟨hk, by simp⟩⟩
      · rw [List.getElem?_set_ne (Ne.symm hj)] at e2
        obtain ⟨u', r', q⟩ := hl j y v' e1 e2 e3
        refine ⟨u', r', ?_⟩
        rcases q with ⟨k, e⟩ | ⟨k, c, e, z⟩
        · refine .inl ⟨k, ?_⟩
          have : y ≠ x := fun e => hj (nodup_ix hN e1 (e ▸ hi))
          simp [this, e]
        · exact .inr ⟨k, c, e, z.sameBut hs (cne y c e)⟩
    · obtain ⟨w', z⟩ := I.cell y c e
      exact ⟨w', z.sameBut hs (cne y c e)⟩
    · obtain ⟨e, n, ne, nf, d⟩ := I.pin p hp
      exact ⟨(hs.2 p.1 ne).trans e, n, ne, nf, d⟩
  · have hfn : X.fn x = true := by
      rcases hf with z | z
      · exact z
      · rw [z] at hk; cases hk
    obtain ⟨c, hc⟩ := I.ok.has x (.inl hk)
    obtain ⟨w', z⟩ := I.cell x c hc
    refine wpAny_storeName_cell I.ok.kind hk hc z (fun h' hc' hs => ?_)
    obtain ⟨oc, hoc, hocd⟩ := id z
    refine h { s with heap := h' } ⟨I.ok, I.os, I.bare, ⟨fun b o e n hb hx => ?_, fun b o e n hb hx => ?_, I.base.free, fun b o e hx => ?_, I.base.tups, I.base.frzs, I.base.tbls⟩, ⟨m, hn.sameBut hs (Ne.symm (cne x c hc)), fun j y v' e1 e2 e3 => ?_⟩, fun y c' e => ?_, I.free, I.freeC, fun p hp => ?_, tracked ⟨oc, hoc, I.freeC x c hc⟩ hs, by simpa using I.len⟩ ⟨c, hs, .inr hc⟩
    · exact (hs.2 b (Nat.ne_of_lt (Nat.lt_of_lt_of_le (Heap.lt_size e) (I.ok.cab x c hfn hc)))).trans (I.base.keep b o e n hb hx)
    · obtain ⟨sl, e1⟩ := I.base.slot b o e n hb hx
      exact ⟨sl, (hs.2 b (Nat.ne_of_lt (Nat.lt_of_lt_of_le (Heap.lt_size e) (I.ok.cab x c hfn hc)))).trans e1⟩
    · obtain ⟨o', e1⟩ := I.base.there b o e hx
      exact ⟨o', (hs.2 b (Nat.ne_of_lt (Nat.lt_of_lt_of_le (Heap.lt_size e) (I.ok.cab x c hfn hc)))).trans e1⟩
    · by_cases hj : j = i
      · subst hj
        rw [hi] at e1; cases e1
        rw [List.getElem?_set_self hiσ] at e2
        cases e2
        exact ⟨u, r, .inr ⟨.inl hk, c, hc, hc'⟩⟩
      · rw [List.getElem?_set_ne (Ne.symm hj)] at e2
        obtain ⟨u', r', q⟩ := hl j y v' e1 e2 e3
        refine ⟨u', r', ?_⟩
        rcases q with q | ⟨k, c', e, z'⟩
        · exact .inl q
        · refine .inr ⟨k, c', e, z'.sameBut hs ?_⟩
          rintro rfl
          exact hj (nodup_ix hN e1 (I.ok.inj _ _ _ e hc ▸ hi))
    · by_cases hcc : c' = c
      · subst hcc; exact ⟨_, hc'⟩
      · obtain ⟨w2, z2⟩ := I.cell y c' e
        exact ⟨w2, z2.sameBut hs hcc⟩
    · obtain ⟨e, n, ne, nf, d⟩ := I.pin p hp
      refine ⟨(hs.2 p.1 ?_).trans e, n, ne, nf, d⟩
      intro q
      rw [q, hoc] at e
      have q' : oc = p.2 := Option.some.inj e
      exact d w' (by rw [← q']; exact hocd)
theorem store_ok {M : Model} {A : Around} {E : Value → Shared → Prop} {i : Nat} {x : Str} {v : V} {u : Value} {Q : Unit → Shared → Prop} (I : Inv X pins σ H s) (hN : X.N.Nodup) (hi : X.N[i]? = some x) (hx : Loc X.env.scope x) (r : RelV v u)
    (h : ∀ s', Inv X pins (σ.set i (some v)) H s' → Q () s') (hf : X.fn x = true ∨ X.env.scope.names.lookup x = some .local := by first | exact .inl rfl | exact .inr rfl | assumption) : wpAny M A (storeName X.env x u) Q E s :=
  store_ok2 I hN hi hx r (fun s' I' _ => h s' I') hf
/-- behind a call or a block, the state as it is -/
theorem Inv.call' {s' : Shared} {ch : List Addr} (I : Inv X pins σ H s) (ho : s'.os = s.os) (u : Un (frs X.stack) ch H H' s.heap s'.heap) (hok : HOk X.prog X.w H' s'.heap) (hg : AllBare s'.gens)
    (hch : ∀ b ∈ ch, (b ∈ X.ex ∨ X.s_0.heap.objs.size ≤ b) ∧ b ≠ X.env.locals ∧ (∀ x c, X.env.cells.lookup x = some c → c ≠ b) ∧ ∀ p ∈ X.pn ++ pins, p.1 ≠ b) : Inv X pins σ H' s' := by
  obtain ⟨h', g', d', t', o'⟩ := s'
  have e : o' = s.os := ho
  subst e
  exact I.call (g' := g') (t' := t') (d' := d') u hok hg hch
end
/-- an exception: its class, its own dict's address (where it has one), the abstract heap behind it -/
abbrev XK := Value → Option Addr → Hp → Prop
abbrev St := List (Option V)
abbrev VK := V → Hp → Prop
/-- an expression's reading; a test's; an argument list's -/
abbrev TE := St → Hp → VK → Prop
abbrev TT := St → Hp → (Bool → Hp → Prop) → Prop
abbrev TA := St → Hp → (List V → Hp → Prop) → Prop
/-- what is wanted behind a statement -/
structure Ends where
  nx : St → Hp → Prop
  rt : VK
  bk : St → Hp → Prop := fun _ _ => False
  ct : St → Hp → Prop := fun _ _ => False
abbrev TS := Ends → St → Hp → Prop
def EP (X : Cx) (pins : List (Addr × Obj)) (σ : St) (Q : VK) (u : Value) (s' : Shared) : Prop := ∃ v H', Inv X pins σ H' s' ∧ RelV v u ∧ Q v H'
def TP (X : Cx) (pins : List (Addr × Obj)) (σ : St) (Q : Bool → Hp → Prop) (b : Bool) (s' : Shared) : Prop := ∃ H', Inv X pins σ H' s' ∧ Q b H'
def AP (X : Cx) (pins : List (Addr × Obj)) (σ : St) (Q : List V → Hp → Prop) (us : List Value) (s' : Shared) : Prop := ∃ vs H', Inv X pins σ H' s' ∧ Vals vs us ∧ Q vs H'
def SP (X : Cx) (pins : List (Addr × Obj)) (D : Ends) (f : Flow) (s' : Shared) : Prop :=
  match f with
  | .next => ∃ σ' H', Inv X pins σ' H' s' ∧ D.nx σ' H'
  | .brk => ∃ σ' H', Inv X pins σ' H' s' ∧ D.bk σ' H'
  | .cont => ∃ σ' H', Inv X pins σ' H' s' ∧ D.ct σ' H'
  | .ret u => ∃ v σ' H', Inv X pins σ' H' s' ∧ RelV v u ∧ D.rt v H'
def PE (X : Cx) (e : Expr) (t : TE) : Prop :=
  ∀ (pins : List (Addr × Obj)) (s : Shared) (σ : St) (H : Hp) (Q : VK), Inv X pins σ H s → t σ H Q → wpAny (model X.prog X.w) X.A (eval e X.env) (EP X pins σ Q) X.xe s
def PT (X : Cx) (e : Expr) (t : TT) : Prop :=
  ∀ (pins : List (Addr × Obj)) (s : Shared) (σ : St) (H : Hp) (Q : Bool → Hp → Prop), Inv X pins σ H s → t σ H Q → wpAny (model X.prog X.w) X.A (isTrue e X.env (eval e X.env)) (TP X pins σ Q) X.xe s
/-- a test whatever its 'whole' is (and, or) -/
def PW (X : Cx) (e : Expr) (t : TT) : Prop :=
  ∀ (whole : Sem Value) (pins : List (Addr × Obj)) (s : Shared) (σ : St) (H : Hp) (Q : Bool → Hp → Prop), Inv X pins σ H s → t σ H Q → wpAny (model X.prog X.w) X.A (isTrue e X.env whole) (TP X pins σ Q) X.xe s
theorem PW.pt {X : Cx} {e : Expr} {t : TT} (h : PW X e t) : PT X e t := h _
/-- an argument list (no star), from the left -/
def PA (X : Cx) (es : List Expr) (t : TA) : Prop :=
  ∀ (pos : Pos) (pins : List (Addr × Obj)) (s : Shared) (σ : St) (H : Hp) (Q : List V → Hp → Prop), Inv X pins σ H s → t σ H Q → wpAny (model X.prog X.w) X.A (spliced (backTo pos (starEach es X.env))) (AP X pins σ Q) X.xe s
def PS (X : Cx) (st : Stmt) (t : TS) : Prop :=
  ∀ (pins : List (Addr × Obj)) (s : Shared) (σ : St) (H : Hp) (D : Ends), Inv X pins σ H s → t D σ H → wpAny (model X.prog X.w) X.A (exec st X.env) (SP X pins D) X.xe s
def PSs (X : Cx) (st : List Stmt) (t : TS) : Prop :=
  ∀ (pins : List (Addr × Obj)) (s : Shared) (σ : St) (H : Hp) (D : Ends), Inv X pins σ H s → t D σ H → wpAny (model X.prog X.w) X.A (execs st X.env) (SP X pins D) X.xe s
/-- weaken the end -/
theorem thn {α : Type} {t : Sem α} {Q Q' : α → Shared → Prop} {M : Model} {A : Around} {E : Value → Shared → Prop} {s : Shared} (h : wpAny M A t Q E s) (hQ : ∀ a s, Q a s → Q' a s) : wpAny M A t Q' E s := wpAny_mono h hQ fun _ _ x => x
end L2
namespace L2
open PySem PySem.Spec PyProof.Rows
section
variable {X : Cx}
def tVar (i : Nat) : TE := fun σ H Q => ∃ v, σ[i]? = some (some v) ∧ Q v H
def tC (v : V) : TE := fun _ H Q => Q v H
theorem pe_var {i : Nat} {x : Str} {pos : Pos} (hN : X.N[i]? = some x) (hv : Vis X.env.scope x) (hd : (x == ("__debug__" : Str)) = false := by decide) (hcd : (x == ("__classdict__" : Str)) = false := by decide) : PE X (.Name x pos) (tVar i) := by
  intro pins s σ H Q I h
  obtain ⟨v, e, h⟩ := h
  obtain ⟨m, hn, hl⟩ := I.loc
  obtain ⟨u, r, l⟩ := hl i x v hN e hv
  have fin : EP X pins σ Q u s := ⟨v, H, I, r, h⟩
  rcases l with ⟨hk, hm⟩ | ⟨hk, c, hc, hcell⟩
  · exact wpAny_Name (wpAny_loadName_local I.ok.kind hk hn hm fin) hd
  · rcases hk with hk | hk
    · exact wpAny_Name (wpAny_loadName_cell I.ok.kind hk hc hcell fin) hd
    · exact wpAny_Name (wpAny_loadName_free I.ok.kind hk hc hcell fin hcd) hd
theorem pe_int {i j pos} : PE X (.Constant (.int i) j pos) (tC (.int i)) := fun _ _ _ H _ I h => wpAny_Constant_int ⟨.int i, H, I.tok _, ⟨_, rfl⟩, h⟩
theorem pe_bl {b j pos} : PE X (.Constant (.bool b) j pos) (tC (.bl b)) := fun _ _ _ H _ I h => Constant_bool ⟨.bl b, H, I, rfl, h⟩
theorem pe_non {j pos} : PE X (.Constant .none j pos) (tC .non) := fun _ _ _ H _ I h => Constant_none ⟨.non, H, I, rfl, h⟩
theorem pe_str {x j pos} : PE X (.Constant (.str x) j pos) (tC (.str x)) := fun _ _ _ H _ I h => Calls.Constant_str ⟨.str x, H, I.tok _, ⟨_, rfl⟩, h⟩
/-- a global name of the def -/
def Gl (X : Cx) (x : Str) : Prop := X.env.kindOf x = some .globalImplicit
theorem ld_glob {E : Value → Shared → Prop} {pins : List (Addr × Obj)} {s : Shared} {σ : St} {H : Hp} {x : Str} {u : Value} {pos : Pos} {Q : Value → Shared → Prop} (I : Inv X pins σ H s) (hg : Gl X x) (hm : X.mg x = some u) (h : Q u s)
    (hd : (x == ("__debug__" : Str)) = false := by decide) : wpAny (model X.prog X.w) X.A (eval (.Name x pos) X.env) Q E s :=
  Calls.Name_function_global I.ok.kind hg (Calls.loadGlobal_global (by rw [I.ok.glob]; exact I.mod.glob.keeps I.bk) hm h) hd
theorem ld_blt {E : Value → Shared → Prop} {pins : List (Addr × Obj)} {s : Shared} {σ : St} {H : Hp} {x : Str} {u : Value} {pos : Pos} {Q : Value → Shared → Prop} (I : Inv X pins σ H s) (hg : Gl X x) (hm : X.mg x = none) (hv : bootBuiltins x = some u) (h : Q u s)
    (hn : x ≠ "__name__" := by decide) (hd : (x == ("__debug__" : Str)) = false := by decide) : wpAny (model X.prog X.w) X.A (eval (.Name x pos) X.env) Q E s := by
  obtain ⟨mb, h1, h2⟩ := I.mod.blt
  exact Calls.Name_function_global I.ok.kind hg (Calls.loadGlobal_builtin (by rw [I.ok.glob]; exact I.mod.glob.keeps I.bk) hm (by rw [I.ok.blt]; exact h1.keeps I.bk) ((h2 x hn).trans hv) h) hd
theorem pe_bltn {x : Str} {v : V} {u : Value} {pos : Pos} (hg : Gl X x) (hm : X.mg x = none) (hv : bootBuiltins x = some u) (r : RelV v u) (hn : x ≠ "__name__" := by decide) (hd : (x == ("__debug__" : Str)) = false := by decide) : PE X (.Name x pos) (tC v) :=
  fun _ _ _ H _ I h => ld_blt I hg hm hv ⟨v, H, I, r, h⟩ hn hd
/-- two ints -/
def t2I (ta tb : TE) (k : Int → Int → Hp → Prop) : St → Hp → Prop := fun σ H => ta σ H fun x H1 => tb σ H1 fun y H2 => ∃ i j, x = .int i ∧ y = .int j ∧ k i j H2
def tAdd (ta tb : TE) : TE := fun σ H Q => t2I ta tb (fun i j H2 => Q (.int (i + j)) H2) σ H
def tSub (ta tb : TE) : TE := fun σ H Q => t2I ta tb (fun i j H2 => Q (.int (i - j)) H2) σ H
/-- the left factor below 2^64 -/
def tMul (ta tb : TE) : TE := fun σ H Q => t2I ta tb (fun i j H2 => (-(2 ^ 64) < i ∧ i < 2 ^ 64) ∧ Q (.int (i * j)) H2) σ H
variable {a b : Expr} {ta tb : TE} {pos : Pos}
def PC (X : Cx) (op : CmpOp) (a b : Expr) (t : TE) : Prop :=
  ∀ (pins : List (Addr × Obj)) (s : Shared) (σ : St) (H : Hp) (Q : VK), Inv X pins σ H s → t σ H Q →
    wpAny (model X.prog X.w) X.A (eval a X.env) (fun v s₁ => wpAny (model X.prog X.w) X.A (eval b X.env) (fun u s₂ => wpAny (model X.prog X.w) X.A (compareOp op v u) (EP X pins σ Q) X.xe s₂) X.xe s₁) X.xe s
def tCmp (p : Int → Int → Bool) (ta tb : TE) : TE := fun σ H Q => t2I ta tb (fun i j H2 => Q (.bl (p i j)) H2) σ H
abbrev tLt : TE → TE → TE := tCmp fun i j => decide (i < j)
abbrev tLe : TE → TE → TE := tCmp fun i j => decide (i ≤ j)
abbrev tGt : TE → TE → TE := tCmp fun i j => decide (j < i)
abbrev tGe : TE → TE → TE := tCmp fun i j => decide (j ≤ i)
abbrev tEqI : TE → TE → TE := tCmp fun i j => decide (i = j)
abbrev tNeI : TE → TE → TE := tCmp fun i j => !decide (i = j)
/-- is None -/
def tIsN (ta : TE) : TE := fun σ H Q => ta σ H fun x H1 => Q (.bl (decide (x = .non))) H1
def tNotN (ta : TE) : TE := fun σ H Q => ta σ H fun x H1 => Q (.bl (!decide (x = .non))) H1
/-- a comparison as a value, as a test -/
def tB (t : TE) : TT := fun σ H Q => t σ H fun x H1 => ∃ c, x = .bl c ∧ Q c H1
/-- an expression whose value is a bool, as a test -/
theorem pt_val {e : Expr} {t : TE} (h : PE X e t) (he : ∀ whole, isTrue e X.env whole = (do let v ← whole; standAt e.pos; holding [v] (truthy v)) := by intro _; rfl) : PT X e (tB t) := by
  intro pins s σ H Q I hw
  refine isTrue_plain (thn (h pins s σ H _ I hw) fun v s1 ⟨x, H1, I1, r1, q1⟩ => ?_) (he _)
  obtain ⟨d, rfl, q⟩ := q1
  cases r1
  exact wpAny_truthy_bool ⟨H1, I1, q⟩
variable {tA tB' : TT} {rest : List Expr}
def tAnd (t u : TT) : TT := fun σ H Q => t σ H fun c H1 => if c = true then u σ H1 Q else Q false H1
def tOr (t u : TT) : TT := fun σ H Q => t σ H fun c H1 => if c = true then Q true H1 else u σ H1 Q
def tNot (t : TT) : TT := fun σ H Q => t σ H fun c H1 => Q (!c) H1
theorem pw_and1 (ha : PT X a tA) : PW X (.BoolOp .And [a] pos) tA := by
  intro wh pins s σ H Q I h
  refine isTrue_and (thn (ha pins s σ H Q I h) fun c s1 e => ?_)
  cases c with
  | true => exact isTrue_and_nil e
  | false => exact e
theorem pw_or1 (ha : PT X a tA) : PW X (.BoolOp .Or [a] pos) tA := by
  intro wh pins s σ H Q I h
  refine isTrue_or (thn (ha pins s σ H Q I h) fun c s1 e => ?_)
  cases c with
  | false => exact isTrue_or_nil e
  | true => exact e
theorem pw_and (ha : PT X a tA) (hb : PW X (.BoolOp .And (b :: rest) pos) tB') : PW X (.BoolOp .And (a :: b :: rest) pos) (tAnd tA tB') := by
  intro wh pins s σ H Q I h
  refine isTrue_and (thn (ha pins s σ H _ I h) fun c s1 ⟨H1, I1, q1⟩ => ?_)
  cases c with
  | true => exact hb wh pins s1 σ H1 Q I1 q1
  | false => exact ⟨H1, I1, q1⟩
theorem pw_or (ha : PT X a tA) (hb : PW X (.BoolOp .Or (b :: rest) pos) tB') : PW X (.BoolOp .Or (a :: b :: rest) pos) (tOr tA tB') := by
  intro wh pins s σ H Q I h
  refine isTrue_or (thn (ha pins s σ H _ I h) fun c s1 ⟨H1, I1, q1⟩ => ?_)
  cases c with
  | true => exact ⟨H1, I1, q1⟩
  | false => exact hb wh pins s1 σ H1 Q I1 q1
theorem pt_not (ha : PT X a tA) : PT X (.UnaryOp .Not a pos) (tNot tA) := by
  intro pins s σ H Q I h
  exact isTrue_not (ha pins s σ H (fun c H1 => Q (!c) H1) I h)
/-- .. as values (bools) -/
def tAndV (ta tb : TE) : TE := fun σ H Q => ta σ H fun x H1 => ∃ c, x = .bl c ∧ if c = true then tb σ H1 Q else Q (.bl false) H1
def tOrV (ta tb : TE) : TE := fun σ H Q => ta σ H fun x H1 => ∃ c, x = .bl c ∧ if c = true then Q (.bl true) H1 else tb σ H1 Q
def tNotV (ta : TE) : TE := fun σ H Q => ta σ H fun x H1 => ∃ c, x = .bl c ∧ Q (.bl (!c)) H1
theorem pe_one {op} {t : TE} (h : PE X a t) : PE X (.BoolOp op [a] pos) t := fun pins s σ H Q I hw => BoolOp_one (h pins s σ H Q I hw)
theorem pe_and (ha : PE X a ta) (hb : PE X (.BoolOp .And (b :: rest) pos) tb) : PE X (.BoolOp .And (a :: b :: rest) pos) (tAndV ta tb) := by
  intro pins s σ H Q I h
  refine BoolOp_and (thn (ha pins s σ H _ I h) fun v s1 ⟨x, H1, I1, r1, q1⟩ => ?_)
  obtain ⟨c, rfl, q1⟩ := q1
  cases r1
  refine wpAny_truthy_bool ?_
  cases c with
  | true => exact hb pins s1 σ H1 Q I1 q1
  | false => exact ⟨.bl false, H1, I1, rfl, q1⟩
theorem pe_or (ha : PE X a ta) (hb : PE X (.BoolOp .Or (b :: rest) pos) tb) : PE X (.BoolOp .Or (a :: b :: rest) pos) (tOrV ta tb) := by
  intro pins s σ H Q I h
  refine BoolOp_or (thn (ha pins s σ H _ I h) fun v s1 ⟨x, H1, I1, r1, q1⟩ => ?_)
  obtain ⟨c, rfl, q1⟩ := q1
  cases r1
  refine wpAny_truthy_bool ?_
  cases c with
  | false => exact hb pins s1 σ H1 Q I1 q1
  | true => exact ⟨.bl true, H1, I1, rfl, q1⟩
/-- a if t else b -/
def tIf (t : TT) (ta tb : TE) : TE := fun σ H Q => t σ H fun c H1 => if c = true then ta σ H1 Q else tb σ H1 Q
end
end L2
namespace L2
open PySem PySem.Spec PyProof.Rows
def SqL (K : PySem.W.Frag) (H : Hp) (a : Addr) (xs : List V) : Prop :=
  Rd H a (.lst xs) ∨
    ∃ (o : Obj) (its : Array Value) (n : Nat), K.lookup a = some o ∧ o.cls = .type "list" ∧ o.dict = none ∧ o.data = .seq its n ∧ its.size ≤ sizeLine ∧ Vals xs its.toList
def SqT (K : PySem.W.Frag) (H : Hp) (a : Addr) (xs : List V) : Prop :=
  Rd H a (.tup xs) ∨
    ∃ (o : Obj) (its : Array Value) (n : Nat), K.lookup a = some o ∧ o.cls = .type "tuple" ∧ o.data = .seq its n ∧ its.size ≤ sizeLine ∧ Vals xs its.toList
def absV : Value → Option V
  | .none => some .non
  | .bool b => some (.bl b)
  | .int i _ => some (.int i)
  | .str x _ => some (.str x)
  | .bytes b _ => some (.byt b)
  | .float b _ => some (.flt b)
  | .ref a => some (.ref a)
  | .type n => some (.ty n)
  | _ => none
theorem RelV.abs {x : V} {u : Value} (r : RelV x u) : absV u = some x := by
  cases x with
  | non => cases r; rfl
  | bl _ => cases r; rfl
  | int _ => obtain ⟨t, rfl⟩ := r; rfl
  | str _ => obtain ⟨t, rfl⟩ := r; rfl
  | byt _ => obtain ⟨t, rfl⟩ := r; rfl
  | flt _ => obtain ⟨t, rfl⟩ := r; rfl
  | ref _ => cases r; rfl
  | ty _ => cases r; rfl
theorem RelV.inj {x y : V} {u : Value} (r : RelV x u) (q : RelV y u) : x = y := Option.some.inj (r.abs.symm.trans q.abs)
theorem Vals.inj : ∀ {xs ys : List V} {us : List Value}, Vals xs us → Vals ys us → xs = ys
  | _, _, _, .nil, .nil => rfl
  | _, _, _, .cons r t, .cons r' t' => by rw [r.inj r', Vals.inj t t']
section
variable {X : Cx} {pins : List (Addr × Obj)} {σ : St} {H : Hp} {s : Shared} {a : Addr} {xs ys : List V}
theorem SqL.of {K : PySem.W.Frag} (h : H a = some (.lst xs)) : SqL K H a xs := .inl (.inl h)
theorem SqT.of {K : PySem.W.Frag} (h : H a = some (.tup xs)) : SqT K H a xs := .inl (.inl h)
theorem Inv.list (I : Inv X pins σ H s) (h : SqL X.K H a xs) : ∃ its : List Value, Vals xs its ∧ PlainL s.heap a its.toArray ∧ xs.length ≤ sizeLine := by
  rcases h with h | ⟨o, its, n, hk, hc, hd, hs, hz, r⟩
  · obtain ⟨z, its, n, r, e⟩ := h.ok I.hok
    exact ⟨its, r, ⟨_, n, e, rfl, rfl, rfl⟩, z⟩
  · refine ⟨its.toList, r, ⟨o, n, I.kIn a o hk, hc, hd, by simpa using hs⟩, ?_⟩
    have e := r.length
    simp only [Array.length_toList] at e
    omega
theorem Inv.tuple (I : Inv X pins σ H s) (h : SqT X.K H a xs) : ∃ its : List Value, Vals xs its ∧ IsTup s.heap a its.toArray ∧ xs.length ≤ sizeLine := by
  rcases h with h | ⟨o, its, n, hk, hc, hs, hz, r⟩
  · obtain ⟨z, its, r, p⟩ := h.ok I.hok
    exact ⟨its, r, p, z⟩
  · refine ⟨its.toList, r, ⟨o, I.kIn a o hk, hc, n, by simpa using hs⟩, ?_⟩
    have e := r.length
    simp only [Array.length_toList] at e
    omega
theorem Inv.list_inj (I : Inv X pins σ H s) (h : SqL X.K H a xs) (h' : SqL X.K H a ys) : xs = ys := by
  obtain ⟨its, r, ⟨o, n, e, _, _, d⟩, _⟩ := I.list h
  obtain ⟨its', r', ⟨o', n', e', _, _, d'⟩, _⟩ := I.list h'
  rw [e] at e'; cases e'
  rw [d] at d'
  injection d' with d1 _
  have : its = its' := by simpa using congrArg Array.toList d1
  subst this
  exact r.inj r'
theorem Inv.tuple_inj (I : Inv X pins σ H s) (h : SqT X.K H a xs) (h' : SqT X.K H a ys) : xs = ys := by
  obtain ⟨its, r, ⟨o, e, _, n, d⟩, _⟩ := I.tuple h
  obtain ⟨its', r', ⟨o', e', _, n', d'⟩, _⟩ := I.tuple h'
  rw [e] at e'; cases e'
  rw [d] at d'
  injection d' with d1 _
  have : its = its' := by simpa using congrArg Array.toList d1
  subst this
  exact r.inj r'
end
abbrev Cx.wish (X : Cx) (E : Value → Shared → Prop) : Cx := { X with xe := E }
/-- no exception leaves -/
abbrev Cx.nox (X : Cx) : Cx := X.wish fun _ _ => False
theorem Cx.Ok.wish {X : Cx} (ok : X.Ok) (E : Value → Shared → Prop) : (X.wish E).Ok :=
  ⟨ok.mod, ok.kind, ok.glob, ok.blt, ok.above, ok.inj, ok.has, ok.cab, ok.hd, ok.frames, ok.stk, ok.exf, ok.bs, ok.bsz, ok.noex, ok.exfs, ok.funs, ok.frf⟩
theorem Cx.Ok.unwish {X : Cx} {E : Value → Shared → Prop} (ok : (X.wish E).Ok) : X.Ok :=
  ⟨ok.mod, ok.kind, ok.glob, ok.blt, ok.above, ok.inj, ok.has, ok.cab, ok.hd, ok.frames, ok.stk, ok.exf, ok.bs, ok.bsz, ok.noex, ok.exfs, ok.funs, ok.frf⟩
section
variable {X : Cx} {pins : List (Addr × Obj)} {σ : St} {H : Hp} {s : Shared} {E : Value → Shared → Prop}
theorem Inv.wish (I : Inv X pins σ H s) (E : Value → Shared → Prop) : Inv (X.wish E) pins σ H s := ⟨I.ok.wish E, I.os, I.bare, I.base, I.loc, I.cell, I.free, I.freeC, I.pin, I.hok, I.len⟩
theorem Inv.unwish (I : Inv (X.wish E) pins σ H s) : Inv X pins σ H s := ⟨I.ok.unwish, I.os, I.bare, I.base, I.loc, I.cell, I.free, I.freeC, I.pin, I.hok, I.len⟩
theorem SP.unwish {D : Ends} {f : Flow} {s' : Shared} (h : SP (X.wish E) pins D f s') : SP X pins D f s' := by
  cases f with
  | next => obtain ⟨σ', H', I, q⟩ := h; exact ⟨σ', H', I.unwish, q⟩
  | brk => obtain ⟨σ', H', I, q⟩ := h; exact ⟨σ', H', I.unwish, q⟩
  | cont => obtain ⟨σ', H', I, q⟩ := h; exact ⟨σ', H', I.unwish, q⟩
  | ret u => obtain ⟨v, σ', H', I, r, q⟩ := h; exact ⟨v, σ', H', I.unwish, r, q⟩
theorem PE.nox {e : Expr} {t : TE} (h : PE X.nox e t) : PE X e t := fun pins s σ H Q I hw =>
  wpAny_mono (h pins s σ H Q (I.wish _) hw) (fun _ _ ⟨v, H', I', r, q⟩ => ⟨v, H', I'.unwish, r, q⟩) fun _ _ z => False.elim z
theorem PT.nox {e : Expr} {t : TT} (h : PT X.nox e t) : PT X e t := fun pins s σ H Q I hw =>
  wpAny_mono (h pins s σ H Q (I.wish _) hw) (fun _ _ ⟨H', I', q⟩ => ⟨H', I'.unwish, q⟩) fun _ _ z => False.elim z
theorem PSs.nox {st : List Stmt} {t : TS} (h : PSs X.nox st t) : PSs X st t := fun pins s σ H D I hw =>
  wpAny_mono (h pins s σ H D (I.wish _) hw) (fun _ _ q => q.unwish) fun _ _ z => False.elim z
end
section
variable {X : Cx} {st : Stmt} {rest : List Stmt} {t u : TS} {e : Expr} {te : TE} {pos : Pos}
def tNext : TS := fun D σ H => D.nx σ H
def tSeq (t u : TS) : TS := fun D σ H => t { D with nx := u D } σ H
theorem pss_nil : PSs X [] tNext := fun _ _ σ H _ I h => wpAny_execs_nil ⟨σ, H, I, h⟩
theorem pss_cons (h1 : PS X st t) (h2 : PSs X rest u) : PSs X (st :: rest) (tSeq t u) := by
  intro pins s σ H D I h
  refine wpAny_execs_cons (thn (h1 pins s σ H { D with nx := u D } I h) fun f s1 q => ?_)
  cases f with
  | next =>
    obtain ⟨σ', H', I', q⟩ := q
    exact h2 pins s1 σ' H' D I' q
  | ret v => exact q
  | brk => exact q
  | cont => exact q
theorem pss_one (h1 : PS X st t) : PSs X [st] t := by
  intro pins s σ H D I h
  refine wpAny_execs_cons (thn (h1 pins s σ H D I h) fun f s1 q => ?_)
  cases f with
  | next => exact wpAny_execs_nil q
  | ret v => exact q
  | brk => exact q
  | cont => exact q
def tBreak : TS := fun D σ H => D.bk σ H
def tCont : TS := fun D σ H => D.ct σ H
/-- in a def's body nothing is shown -/
theorem Inv.quiet {pins : List (Addr × Obj)} {σ : St} {H : Hp} {s : Shared} (I : Inv X pins σ H s) : interactive X.env = false := by simp [interactive, I.ok.kind]
/-- an expression whose value is dropped -/
def tDrop (te : TE) : TS := fun D σ H => te σ H fun _ H1 => D.nx σ H1
theorem ps_expr (he : PE X e te) (hs : swapsWith e none pos.line X.env = pure false := by rfl) : PS X (.Expr e pos) (tDrop te) := by
  intro pins s σ H D I h
  exact wpAny_Expr_any (thn (he pins s σ H _ I h) fun v s1 ⟨x, H1, I1, r1, q1⟩ => ⟨σ, H1, I1, q1⟩) I.quiet hs
def tRet (te : TE) : TS := fun D σ H => te σ H D.rt
theorem ps_ret (he : PE X e te) : PS X (.Return (some e) pos) (tRet te) := by
  intro pins s σ H D I h
  exact wpAny_Return_some (thn (he pins s σ H _ I h) fun v s1 ⟨x, H1, I1, r1, q1⟩ => ⟨x, σ, H1, I1, r1, q1⟩)
def tRetN : TS := fun D _ H => D.rt .non H
def tIfS (c : TT) (t u : TS) : TS := fun D σ H => c σ H fun b H1 => if b = true then t D σ H1 else u D σ H1
theorem ps_if {c : Expr} {a b : List Stmt} {tc : TT} (hc : PT X c tc) (ha : PSs X a t) (hb : PSs X b u) : PS X (.If c a b pos) (tIfS tc t u) := by
  intro pins s σ H D I h
  refine wpAny_If (thn (hc pins s σ H _ I h) fun d s1 ⟨H1, I1, q1⟩ => ?_)
  cases d with
  | true => exact ha pins s1 σ H1 D I1 q1
  | false => exact hb pins s1 σ H1 D I1 q1
/-- code that the proof never comes to -/
def tNever : TS := fun _ _ _ => False
end
abbrev TG := V → St → Hp → (St → Hp → Prop) → Prop
abbrev TGs := List V → St → Hp → (St → Hp → Prop) → Prop
def PG (X : Cx) (target : Expr) (t : TG) : Prop :=
  ∀ (pins : List (Addr × Obj)) (s : Shared) (σ : St) (H : Hp) (v : V) (u : Value) (Q : St → Hp → Prop), Inv X pins σ H s → RelV v u → t v σ H Q →
    wpAny (model X.prog X.w) X.A (assign target X.env u) (fun _ s' => ∃ σ' H', Inv X pins σ' H' s' ∧ Q σ' H') X.xe s
/-- several targets, one after another -/
def PGs (X : Cx) (ts : List Expr) (t : TGs) : Prop :=
  ∀ (pins : List (Addr × Obj)) (s : Shared) (σ : St) (H : Hp) (vs : List V) (us : List Value) (Q : St → Hp → Prop), Inv X pins σ H s → Vals vs us → t vs σ H Q →
    wpAny (model X.prog X.w) X.A (assignInOrder ((assignEach ts X.env).map (·.2)) us) (fun _ s' => ∃ σ' H', Inv X pins σ' H' s' ∧ Q σ' H') X.xe s
/-- o[i] = v, by values -/
abbrev TSet := V → V → V → Hp → (Hp → Prop) → Prop
def PSet (X : Cx) (t : TSet) : Prop :=
  ∀ (pins : List (Addr × Obj)) (s : Shared) (σ : St) (H : Hp) (o i v : V) (ov iv u : Value) (Q : Hp → Prop), Inv X pins σ H s → RelV o ov → RelV i iv → RelV v u → t o i v H Q →
    wpAny (model X.prog X.w) X.A (setItem ov iv u) (fun _ s' => ∃ H', Inv X pins σ H' s' ∧ Q H') X.xe s
/-- a op= b, by values -/
abbrev TIp := V → V → Hp → VK → Prop
def PIp (X : Cx) (op : Operator) (t : TIp) : Prop :=
  ∀ (pins : List (Addr × Obj)) (s : Shared) (σ : St) (H : Hp) (x y : V) (v u : Value) (Q : VK), Inv X pins σ H s → RelV x v → RelV y u → t x y H Q →
    wpAny (model X.prog X.w) X.A (inplaceOp op v u) (EP X pins σ Q) X.xe s
section
variable {X : Cx} {pos : Pos}
def gName (i : Nat) : TG := fun v σ H Q => Q (σ.set i (some v)) H
theorem pg_name {i : Nat} {x : Str} (hN : X.N.Nodup) (hi : X.N[i]? = some x) (hx : Loc X.env.scope x) (hf : X.fn x = true ∨ X.env.scope.names.lookup x = some .local := by first | exact .inl rfl | exact .inr rfl | assumption) : PG X (.Name x pos) (gName i) := by
  intro pins s σ H v u Q I r h
  exact wpAny_assign_Name (store_ok I hN hi hx r (fun s' I' => ⟨_, H, I', h⟩) hf)
def gNil : TGs := fun vs σ H Q => vs = [] ∧ Q σ H
def gCons (t : TG) (u : TGs) : TGs := fun vs σ H Q => ∃ v r, vs = v :: r ∧ t v σ H fun σ' H' => u r σ' H' Q
theorem pgs_nil : PGs X [] gNil := by
  intro pins s σ H vs us Q I r h
  obtain ⟨e, h⟩ := h
  subst e
  cases r
  exact assignInOrder_nil ⟨σ, H, I, h⟩
theorem pgs_cons {e : Expr} {es : List Expr} {t : TG} {u : TGs} (h1 : PG X e t) (h2 : PGs X es u)
    (hs : (assignEach (e :: es) X.env).map (·.2) = assign e X.env :: (assignEach es X.env).map (·.2) := by rfl) : PGs X (e :: es) (gCons t u) := by
  intro pins s σ H vs us Q I r h
  obtain ⟨v, vr, e1, h⟩ := h
  subst e1
  cases r with
  | cons r rr =>
    rw [hs]
    refine assignInOrder_cons (thn (h1 pins s σ H _ _ _ I r h) fun _ s1 ⟨σ1, H1, I1, q1⟩ => ?_)
    exact h2 pins s1 σ1 H1 _ _ Q I1 rr q1
/-- (a, b, ..) = a tuple of that length -/
def gTup (K : PySem.W.Frag) (n : Nat) (t : TGs) : TG := fun v σ H Q => ∃ a xs, v = .ref a ∧ SqT K H a xs ∧ xs.length = n ∧ t xs σ H Q
theorem pg_tup {es : List Expr} {k : Nat} {t : TGs} {n : Nat} (hc : X.calm = true) (h : PGs X es t)
    (hn : (assignEach es X.env).length = n := by rfl) (hst : (assignEach es X.env).findIdx? (·.1) = none := by rfl) : PG X (.Tuple es k pos) (gTup X.K n t) := by
  intro pins s σ H v u Q I r hw
  obtain ⟨a, xs, e1, hq, hl, hw⟩ := hw
  subst e1
  cases r
  obtain ⟨its, rv, ht, hz⟩ := I.tuple hq
  refine assign_Tuple_tuple (I.ok.hd hc) ht (by simp [hn, ← hl, rv.length]) hst fun h' hx => ?_
  have I1 : Inv X pins σ H { s with heap := h' } := I.kept (t' := s.toks) fun b o e => hx b o (Nat.ne_of_lt (Heap.lt_size e)) e
  exact h pins _ σ H xs _ Q I1 (by simpa using rv) hw
/-- o[i] = .. -/
def gSub (to ti : TE) (t : TSet) : TG := fun v σ H Q => to σ H fun o H1 => ti σ H1 fun i H2 => t o i v H2 fun H3 => Q σ H3
theorem pg_sub {o i : Expr} {to ti : TE} {t : TSet} (ho : PE X o to) (hi : PE X i ti) (hs : PSet X t)
    (ha : ∀ v, assign (.Subscript o i pos) X.env v = (do
      let ov ← holding [v] (eval o X.env)
      let iv ← holding [v, ov] (eval i X.env)
      standAt pos
      holding [v, ov, iv] (setItem ov iv v)
      release [v, ov, iv] []) := by intro _; rfl) : PG X (.Subscript o i pos) (gSub to ti t) := by
  intro pins s σ H v u Q I r h
  rw [ha]
  refine wpAny_bind (wpAny_holding (thn (ho pins s σ H _ I h) fun ov s1 ⟨x, H1, I1, r1, q1⟩ => ?_))
  refine wpAny_bind (wpAny_holding (thn (hi pins s1 σ H1 _ I1 q1) fun iv s2 ⟨y, H2, I2, r2, q2⟩ => ?_))
  refine wpAny_bind (wpAny_standAt (wpAny_bind (wpAny_holding (thn (hs pins s2 σ H2 x y v ov iv u _ I2 r1 r2 r q2) fun _ s3 ⟨H3, I3, q3⟩ => ?_))))
  exact wpAny_release ⟨σ, H3, I3, q3⟩
/-- target = value -/
def tAsg (te : TE) (g : TG) : TS := fun D σ H => te σ H fun x H1 => g x σ H1 D.nx
theorem ps_asg {tg e : Expr} {te : TE} {g : TG} (he : PE X e te) (hg : PG X tg g) (hs : swapsWithSole [tg] e pos.line X.env = pure false := by rfl) (hw : swappedStores [tg] e X.env = pure none := by rfl)
    (h1 : (assignEach [tg] X.env).map (·.2) = [assign tg X.env] := by rfl) : PS X (.Assign [tg] e pos) (tAsg te g) := by
  intro pins s σ H D I h
  refine wpAny_Assign_stores (thn (he pins s σ H _ I h) fun v s1 ⟨x, H1, I1, r1, q1⟩ => ?_) hs hw
  rw [h1]
  exact thn (hg pins s1 σ H1 x v _ I1 r1 q1) fun _ s2 q => q
/-- name = value -/
theorem ps_set {i : Nat} {x : Str} {e : Expr} {te : TE} {pos' : Pos} (hN : X.N.Nodup) (hi : X.N[i]? = some x) (hx : Loc X.env.scope x) (he : PE X e te) (hs : swapsWith e (some (.Name x pos')) pos.line X.env = pure false := by rfl) (hf : X.fn x = true ∨ X.env.scope.names.lookup x = some .local := by first | exact .inl rfl | exact .inr rfl | assumption) :
    PS X (.Assign [.Name x pos'] e pos) (tAsg te (gName i)) := by
  intro pins s σ H D I h
  refine wpAny_Assign_Name (thn (he pins s σ H _ I h) fun v s1 ⟨y, H1, I1, r1, q1⟩ => ?_) hs
  exact store_ok I1 hN hi hx r1 (fun s2 I2 => ⟨_, H1, I2, q1⟩) hf
/-- a, b = x, y with plain local names: stored from the right; the pair itself is not tracked (the opening rows as in PyProof/Rows/TupAssign.lean:23) -/
def tPar (i j : Nat) (ta : TA) : TS := fun D σ H => ta σ H fun vs H1 => ∃ v w, vs = [v, w] ∧ D.nx ((σ.set i (some v)).set j (some w)) H1
/-- name op= e -/
def tAug (i : Nat) (te : TE) (ti : TIp) : TS := fun D σ H => ∃ x, σ[i]? = some (some x) ∧ te σ H fun y H1 => ti x y H1 fun z H2 => D.nx (σ.set i (some z)) H2
/-- o[i] op= e -/
def tAugS (to ti te : TE) (tget : V → V → Hp → VK → Prop) (tip : TIp) (tset : TSet) : TS := fun D σ H => to σ H fun o H1 => ti σ H1 fun i H2 => tget o i H2 fun x H3 => te σ H3 fun y H4 => tip x y H4 fun z H5 => tset o i z H5 fun H6 => D.nx σ H6
/-- o[i], by values -/
def PGet (X : Cx) (t : V → V → Hp → VK → Prop) : Prop :=
  ∀ (pins : List (Addr × Obj)) (s : Shared) (σ : St) (H : Hp) (o i : V) (ov iv : Value) (Q : VK), Inv X pins σ H s → RelV o ov → RelV i iv → t o i H Q →
    wpAny (model X.prog X.w) X.A (getItem ov iv) (EP X pins σ Q) X.xe s
/-- ints -/
def ipI (f : Int → Int → Int) : TIp := fun x y H Q => ∃ i j, x = .int i ∧ y = .int j ∧ Q (.int (f i j)) H
end
section
variable {X : Cx} {pos : Pos}
/-- the invariant W with its measure -/
def tWhile (c : TT) (tb : TS) : TS := fun D σ H => ∃ W : Nat → St → Hp → Prop, (∃ m, W m σ H) ∧ ∀ m σ H, W m σ H →
  c σ H fun b H1 => if b = true then ∃ N : St → Hp → Prop, (∀ σ' H', N σ' H' → ∃ m', m' < m ∧ W m' σ' H') ∧ tb { D with nx := N, ct := N, bk := D.nx } σ H1 else D.nx σ H1
end
/-- at turn i: it yields x (the heap may grow), or it stops -/
structure It where
  go : Nat → Hp → Prop
  yld : Nat → Hp → V → Hp → Prop
  stop : Nat → Hp → Prop
/-- the iterator's own objects may turn: they are not the frame's, not pinned, younger than the entry (or a comprehension's own) -/
def FpOk (X : Cx) (pins : List (Addr × Obj)) (H : Hp) (b : Addr) : Prop :=
  H b = none ∧ b ≠ X.env.locals ∧ b ∉ X.fs ∧ (b ∈ X.ex ∨ X.s_0.heap.objs.size ≤ b) ∧ (∀ x c, X.env.cells.lookup x = some c → c ≠ b) ∧ ∀ p ∈ X.pn ++ pins, p.1 ≠ b
theorem Inv.fpOk {X : Cx} {pins : List (Addr × Obj)} {σ : St} {H H' : Hp} {s : Shared} {b : Addr} (I : Inv X pins σ H s) (hb : s.heap.objs.size ≤ b) (hn : H' b = none) : FpOk X pins H' b := by
  refine ⟨hn, Nat.ne_of_gt (Nat.lt_of_lt_of_le I.lt hb), I.nofs hb, .inr (Nat.le_trans I.sz hb), fun x c e z => ?_, fun p hp z => ?_⟩
  · obtain ⟨v, q⟩ := I.cell x c e
    exact absurd (Nat.lt_of_lt_of_le q.lt (by rw [z]; exact hb)) (Nat.lt_irrefl _)
  · exact absurd (Nat.lt_of_lt_of_le (Heap.lt_size (I.pin p hp).1) (by rw [z]; exact hb)) (Nat.lt_irrefl _)
structure Turn (P : Program) (w : World) (K : PySem.W.Frag) (tg : Expr) (J : It) (fp : List Addr) (it : Addr) (tn : Nat → Heap → Prop) : Prop where
  mem : it ∈ fp
  obj : ∀ i h, tn i h → ∀ b ∈ fp, ∃ o, h.get? b = some o ∧ ∀ v, o.data ≠ .cell v
  keep : ∀ i h h', tn i h → (∀ b ∈ fp, ∀ o, h.get? b = some o → h'.get? b = some o) → tn i h'
  item : ∀ (X : Cx), X.prog = P → X.w = w → X.K = K → X.calm = true → ∀ (i : Nat) (pins : List (Addr × Obj)) (s : Shared) (σ : St) (H : Hp) (E : Value → Shared → Prop), Inv X pins σ H s → (∀ b ∈ fp, FpOk X pins H b) → tn i s.heap → J.go i H →
    wpAny (model P w) X.A (pyNext (.ref it)) (fun r s1 => ∃ u, r = some u ∧
      wpAny (model P w) X.A (letOwnedTupleGo tg (.ref it) u) (fun _ s2 => ∃ x H', Inv X pins σ H' s2 ∧ RelV x u ∧ J.yld i H x H' ∧ tn (i + 1) s2.heap ∧ ∀ b ∈ fp, H' b = none) E s1) E s
  done : ∀ (X : Cx), X.prog = P → X.w = w → X.K = K → X.calm = true → ∀ (i : Nat) (pins : List (Addr × Obj)) (s : Shared) (σ : St) (H : Hp) (E : Value → Shared → Prop), Inv X pins σ H s → (∀ b ∈ fp, FpOk X pins H b) → tn i s.heap → J.stop i H →
    wpAny (model P w) X.A (pyNext (.ref it)) (fun r s1 => r = none ∧ Inv X pins σ H s1) E s
  self : ∀ (A : Around) (i : Nat) (s : Shared) (Q : Value → Shared → Prop) (E : Value → Shared → Prop), tn i s.heap → Q (.ref it) s → wpAny (model P w) A (pyIter (.ref it)) Q E s
abbrev TI := St → Hp → (It → Hp → Prop) → Prop
/-- an iterator has come -/
def PIE (X : Cx) (pins : List (Addr × Obj)) (σ : St) (tg : Expr) (R : It → Hp → Prop) (itv : Value) (s2 : Shared) : Prop :=
  ∃ (it : Addr) (fp : List Addr) (tn : Nat → Heap → Prop) (J : It) (H' : Hp), itv = .ref it ∧ Inv X pins σ H' s2 ∧ Turn X.prog X.w X.K tg J fp it tn ∧ tn 0 s2.heap ∧ (∀ b ∈ fp, FpOk X pins H' b) ∧ R J H'
def PI (X : Cx) (tg iter : Expr) (wi : TI) : Prop :=
  ∀ (pins : List (Addr × Obj)) (s : Shared) (σ : St) (H : Hp) (R : It → Hp → Prop), Inv X pins σ H s → wi σ H R →
    wpAny (model X.prog X.w) X.A (eval iter X.env) (fun v s1 => wpAny (model X.prog X.w) X.A (pyIter v) (PIE X pins σ tg R) X.xe s1) X.xe s
/-- the step ahead of the store is nothing for an iterator that keeps no tuple -/
theorem go_of {M : Model} {A : Around} {E : Value → Shared → Prop} {s : Shared} {tg : Expr} {it : Addr} {u : Value} {o : Obj} {n : String} {vs : Array Value} {Q : Unit → Shared → Prop} (ho : s.heap.get? it = some o) (hc : o.cls = .type n) (hd : o.data = .fields vs)
    (hn : ["enumerate", "zip", "dict_itemiterator", "dict_reverseitemiterator", "odict_iterator", "itertools.zip_longest", "itertools.pairwise"].contains n = false) (hQ : Q () s) : wpAny M A (letOwnedTupleGo tg (.ref it) u) Q E s := by
  unfold letOwnedTupleGo
  cases tg <;> first
    | exact wpAny_pure hQ
    | (cases u <;> first
        | exact wpAny_pure hQ
        | (refine wpAny_bind (wpAny_load ho ?_)
           rw [hc, hd]
           show wpAny M A (if (["enumerate", "zip", "dict_itemiterator", "dict_reverseitemiterator", "odict_iterator", "itertools.zip_longest", "itertools.pairwise"].contains n && vs[0]? == some (rawInt _)) = true then _ else _) Q E s
           rw [if_neg (by intro h; rw [hn, Bool.false_and] at h; cases h)]
           exact wpAny_pure hQ))
/-- the list at a, as it stands at each turn (a loop may append to it) -/
def Itl (K : PySem.W.Frag) (a : Addr) : It :=
  ⟨fun i H => ∃ xs x, SqL K H a xs ∧ xs[i]? = some x, fun i H x H' => H' = H ∧ ∀ xs, SqL K H a xs → xs[i]? = some x, fun i H => ∃ xs, SqL K H a xs ∧ xs.length ≤ i⟩
def Itt (K : PySem.W.Frag) (a : Addr) : It :=
  ⟨fun i H => ∃ xs x, SqT K H a xs ∧ xs[i]? = some x, fun i H x H' => H' = H ∧ ∀ xs, SqT K H a xs → xs[i]? = some x, fun i H => ∃ xs, SqT K H a xs ∧ xs.length ≤ i⟩
/-- lo, lo + 1, .. (n of them) -/
def Itr (lo : Int) (n : Nat) : It := ⟨fun i _ => i < n, fun i H x H' => H' = H ∧ x = .int (lo + i), fun i _ => n ≤ i⟩
theorem turn_list {P : Program} {w : World} {K : PySem.W.Frag} {tg : Expr} (a it : Addr) : Turn P w K tg (Itl K a) [it] it (fun i h => h.IsListIter it a i) where
  mem := by simp
  obj := fun i h st b hb => by
    have e : b = it := by simpa using hb
    subst e
    obtain ⟨o, e, c, d⟩ := st
    exact ⟨o, e, fun v z => by rw [d] at z; cases z⟩
  keep := fun i h h' st k => st.at fun o e => k it (by simp) o e
  item := by
    intro X hP hw hK hc i pins s σ H E I hf st hg
    subst hP hw hK
    obtain ⟨xs, x, hq, hx⟩ := hg
    obtain ⟨its, rv, p, hz⟩ := I.list hq
    obtain ⟨u, hu, ru⟩ := rv.get hx
    obtain ⟨f0, f1, f2, f3, f4, f5⟩ := hf it (by simp)
    refine wpAny_pyNext_list_item st p.isList (x := u) (by simpa using hu) fun h' st' sb => ?_
    have I1 : Inv X pins σ H { s with heap := h' } := I.turned (t' := s.toks) (fun b o hb e => (sb.2 b hb).trans e) f0 f1 f3 f4 f5
    obtain ⟨o, e, c, d⟩ := id st'
    exact ⟨u, rfl, go_of (s := { s with heap := h' }) e c d (by decide) ⟨x, H, I1, ru, ⟨rfl, fun ys hy => by rw [I.list_inj hy hq]; exact hx⟩, st', fun b hb => (hf b hb).1⟩⟩
  done := by
    intro X hP hw hK hc i pins s σ H E I hf st hg
    subst hP hw hK
    obtain ⟨xs, hq, hx⟩ := hg
    obtain ⟨its, rv, p, hz⟩ := I.list hq
    obtain ⟨f0, f1, f2, f3, f4, f5⟩ := hf it (by simp)
    have hl := rv.length
    exact wpAny_pyNext_list_end (I.ok.hd hc) st p.isList (by simp; omega) fun h' eb => ⟨rfl, I.turned (t' := s.toks) (fun b o hb e => eb b o hb e) f0 f1 f3 f4 f5⟩
  self := fun _ _ _ _ _ st h => wpAny_pyIter_listiter st h
theorem turn_tuple {P : Program} {w : World} {K : PySem.W.Frag} {tg : Expr} (a it : Addr) : Turn P w K tg (Itt K a) [it] it (fun i h => h.IsTupleIter it a i) where
  mem := by simp
  obj := fun i h st b hb => by
    have e : b = it := by simpa using hb
    subst e
    obtain ⟨o, e, c, d⟩ := st
    exact ⟨o, e, fun v z => by rw [d] at z; cases z⟩
  keep := fun i h h' st k => st.at fun o e => k it (by simp) o e
  item := by
    intro X hP hw hK hc i pins s σ H E I hf st hg
    subst hP hw hK
    obtain ⟨xs, x, hq, hx⟩ := hg
    obtain ⟨its, rv, p, hz⟩ := I.tuple hq
    obtain ⟨u, hu, ru⟩ := rv.get hx
    obtain ⟨f0, f1, f2, f3, f4, f5⟩ := hf it (by simp)
    refine wpAny_pyNext_tuple_item st (show s.heap.IsTuple a its.toArray from p) (x := u) (by simpa using hu) fun h' st' sb => ?_
    have I1 : Inv X pins σ H { s with heap := h' } := I.turned (t' := s.toks) (fun b o hb e => (sb.2 b hb).trans e) f0 f1 f3 f4 f5
    obtain ⟨o, e, c, d⟩ := id st'
    exact ⟨u, rfl, go_of (s := { s with heap := h' }) e c d (by decide) ⟨x, H, I1, ru, ⟨rfl, fun ys hy => by rw [I.tuple_inj hy hq]; exact hx⟩, st', fun b hb => (hf b hb).1⟩⟩
  done := by
    intro X hP hw hK hc i pins s σ H E I hf st hg
    subst hP hw hK
    obtain ⟨xs, hq, hx⟩ := hg
    obtain ⟨its, rv, p, hz⟩ := I.tuple hq
    obtain ⟨f0, f1, f2, f3, f4, f5⟩ := hf it (by simp)
    have hl := rv.length
    exact wpAny_pyNext_tuple_end (I.ok.hd hc) st (show s.heap.IsTuple a its.toArray from p) (by simp; omega) fun h' eb => ⟨rfl, I.turned (t' := s.toks) (fun b o hb e => eb b o hb e) f0 f1 f3 f4 f5⟩
  self := fun _ _ _ _ _ st h => wpAny_pyIter_tupleiter st h
theorem turn_range {P : Program} {w : World} {K : PySem.W.Frag} {tg : Expr} (it : Addr) (lo : Int) (n : Nat) : Turn P w K tg (Itr lo n) [it] it (fun i h => IsRangeIter h it (lo + (i : Nat) * 1) ((n : Int) - (i : Nat)) 1) where
  mem := by simp
  obj := fun i h st b hb => by
    have e : b = it := by simpa using hb
    subst e
    exact ⟨_, st, fun v z => by
      have z' : Data.fields _ = Data.cell v := z
      cases z'⟩
  keep := fun i h h' st k => k it (by simp) _ st
  item := by
    intro X hP hw hK hc i pins s σ H E I hf st hg
    subst hP hw hK
    obtain ⟨f0, f1, f2, f3, f4, f5⟩ := hf it (by simp)
    have W := Walks.range (prog := X.prog) (w := X.w) (I.ok.hd hc) it lo 1 n
    refine W.item i s _ _ hg st fun v h' tk hv st' kk => ?_
    obtain ⟨t, rfl⟩ := hv
    have I1 : Inv X pins σ H { s with heap := h', toks := tk } := I.turned (fun b o hb e => kk b o (by simpa using hb) e) f0 f1 f3 f4 f5
    refine ⟨_, rfl, go_of (s := { s with heap := h', toks := tk }) (n := "range_iterator") st' rfl rfl (by decide) ⟨.int (lo + i), H, I1, ⟨t, ?_⟩, ⟨rfl, rfl⟩, st', fun b hb => (hf b hb).1⟩⟩
    rw [Int.mul_one]
  done := by
    intro X hP hw hK hc i pins s σ H E I hf st hg
    subst hP hw hK
    obtain ⟨f0, f1, f2, f3, f4, f5⟩ := hf it (by simp)
    exact wpAny_pyNext_range_end (I.ok.hd hc) st (by have : n ≤ i := hg; omega) fun h' eb => ⟨rfl, I.turned (t' := s.toks) (fun b o hb e => eb b o hb e) f0 f1 f3 f4 f5⟩
  self := fun _ _ _ _ _ st h => wpAny_pyIter_rangeiter st h
end L2
namespace L2
open PySem PySem.Spec PyProof.Rows
section
variable {X : Cx} {tg : Expr}
def iList (K : PySem.W.Frag) (tl : TE) : TI := fun σ H R => tl σ H fun x H1 => ∃ a, x = .ref a ∧ (∃ xs, SqL K H1 a xs) ∧ R (Itl K a) H1
def iTup (K : PySem.W.Frag) (tl : TE) : TI := fun σ H R => tl σ H fun x H1 => ∃ a, x = .ref a ∧ (∃ xs, SqT K H1 a xs) ∧ R (Itt K a) H1
theorem pi_list {l : Expr} {tl : TE} (hl : PE X l tl) : PI X tg l (iList X.K tl) := by
  intro pins s σ H R I h
  refine thn (hl pins s σ H _ I h) fun v s1 ⟨x, H1, I1, r1, q1⟩ => ?_
  obtain ⟨a, e, ⟨xs, hq⟩, q⟩ := q1
  subst e
  cases r1
  obtain ⟨its, rv, p, hz⟩ := I1.list hq
  refine wpAny_pyIter_list p.isList ?_
  refine ⟨s1.heap.objs.size, [s1.heap.objs.size], _, _, H1, rfl, I1.kept (t' := s1.toks) fun b o e => Heap.get?_push_of_some _ e, turn_list a _, ⟨_, Heap.get?_push_size _ rfl, rfl, rfl⟩, fun b hb => ?_, q⟩
  have e : b = s1.heap.objs.size := by simpa using hb
  subst e
  exact I1.fpOk (Nat.le_refl _) (I1.hok.fresh (Nat.le_refl _))
theorem pi_tup {l : Expr} {tl : TE} (hl : PE X l tl) : PI X tg l (iTup X.K tl) := by
  intro pins s σ H R I h
  refine thn (hl pins s σ H _ I h) fun v s1 ⟨x, H1, I1, r1, q1⟩ => ?_
  obtain ⟨a, e, ⟨xs, hq⟩, q⟩ := q1
  subst e
  cases r1
  obtain ⟨its, rv, p, hz⟩ := I1.tuple hq
  refine wpAny_pyIter_tuple (show s1.heap.IsTuple a its.toArray from p) ?_
  refine ⟨s1.heap.objs.size, [s1.heap.objs.size], _, _, H1, rfl, I1.kept (t' := s1.toks) fun b o e => Heap.get?_push_of_some _ e, turn_tuple a _, ⟨_, Heap.get?_push_size _ rfl, rfl, rfl⟩, fun b hb => ?_, q⟩
  have e : b = s1.heap.objs.size := by simpa using hb
  subst e
  exact I1.fpOk (Nat.le_refl _) (I1.hok.fresh (Nat.le_refl _))
/-- a range object just made, walked -/
theorem range_it {pins : List (Addr × Obj)} {σ : St} {H : Hp} {s : Shared} {R : It → Hp → Prop} {E : Value → Shared → Prop} {lo hi : Int} {t u v : Tok} {tk : Nat} (I : Inv X pins σ H s) (h1 : -(2 ^ 62) ≤ lo) (h2 : lo < 2 ^ 62) (h3 : -(2 ^ 62) ≤ hi) (h4 : hi < 2 ^ 62)
    (q : R (Itr lo (hi - lo).toNat) H) : wpAny (model X.prog X.w) X.A (pyIter (.ref s.heap.objs.size)) (PIE X pins σ tg R) E { s with heap := s.heap.push { cls := .type "range", data := .fields #[.int lo t, .int hi u, .int 1 v] }, toks := tk } := by
  refine wpAny_pyIter_range (IsRange.new ..) (small_one h1 h2 h3 h4) ?_
  have I1 : Inv X pins σ H { s with heap := s.heap.push { cls := .type "range", data := .fields #[.int lo t, .int hi u, .int 1 v] }, toks := tk } := I.kept fun b o e => Heap.get?_push_of_some _ e
  refine ⟨(s.heap.push { cls := .type "range", data := .fields #[.int lo t, .int hi u, .int 1 v] }).objs.size, [(s.heap.push { cls := .type "range", data := .fields #[.int lo t, .int hi u, .int 1 v] }).objs.size], _, _, H, rfl,
    I1.kept (t' := tk) fun b o e => Heap.get?_push_of_some _ e, turn_range _ lo (hi - lo).toNat, ?_, fun b hb => ?_, q⟩
  · have e1 : lo + ((0 : Nat) : Int) * 1 = lo := by simp
    have e2 : (((hi - lo).toNat : Nat) : Int) - ((0 : Nat) : Int) = Builtin.Range.rangeSize lo hi 1 := by rw [rangeSize_one]; split <;> omega
    show IsRangeIter _ _ (lo + ((0 : Nat) : Int) * 1) ((((hi - lo).toNat : Nat) : Int) - ((0 : Nat) : Int)) 1
    rw [e1, e2]
    exact Heap.get?_push_size _ rfl
  · have e : b = (s.heap.push { cls := .type "range", data := .fields #[.int lo t, .int hi u, .int 1 v] }).objs.size := by simpa using hb
    subst e
    exact I1.fpOk (Nat.le_refl _) (I1.hok.fresh (Nat.le_refl _))
def iRng1 (ta : TA) : TI := fun σ H R => ta σ H fun vs H1 => ∃ j : Int, vs = [.int j] ∧ -(2 ^ 62) ≤ j ∧ j < 2 ^ 62 ∧ R (Itr 0 j.toNat) H1
def iRng2 (ta : TA) : TI := fun σ H R => ta σ H fun vs H1 => ∃ i j : Int, vs = [.int i, .int j] ∧ (-(2 ^ 62) ≤ i ∧ i < 2 ^ 62 ∧ -(2 ^ 62) ≤ j ∧ j < 2 ^ 62) ∧ R (Itr i (j - i).toNat) H1
theorem pi_range1 {a : Expr} {ta : TA} {p pos : Pos} (hg : Gl X "range") (hm : X.mg "range" = none) (ha : PA X [a] ta) (hs : starEach [a] X.env = [(false, eval a X.env)] := by rfl) : PI X tg (.Call (.Name "range" p) [a] [] pos) (iRng1 ta) := by
  intro pins s σ H R I h
  refine Call_ (ld_blt I hg hm boot_range (PyProof.Rows.callWith_type1 (thn (ha pos pins s σ H _ I h) fun us s1 ⟨vs, H1, I1, r1, q1⟩ => ?_) hs rfl))
  obtain ⟨j, e, q1, q2, q⟩ := q1
  subst e
  cases r1 with
  | cons r rr =>
    cases rr
    obtain ⟨t, rfl⟩ := r
    exact call_range_1 (range_it I1 (by omega) (by omega) q1 q2 (by simpa using q))
/-- W: the invariant by the turn and a measure; N: what the body is to reach -/
def tFor (wi : TI) (g : TG) (tb : TS) : TS := fun D σ H => wi σ H fun J H1 => ∃ W : Nat → Nat → St → Hp → Prop, (∃ m, W 0 m σ H1) ∧ ∀ i m σ H, W i m σ H →
  (J.stop i H ∧ D.nx σ H) ∨ (J.go i H ∧ ∃ N : St → Hp → Prop, (∀ σ' H', N σ' H' → ∃ m', m' < m ∧ W (i + 1) m' σ' H') ∧ ∀ x H', J.yld i H x H' → g x σ H' fun σ2 H2 => tb { D with nx := N, ct := N, bk := D.nx } σ2 H2)
/-- the records at fp as they stand -/
def pinsAt (fp : List Addr) (h : Heap) : List (Addr × Obj) := fp.filterMap fun b => (h.get? b).map fun o => (b, o)
theorem mem_pinsAt {fp : List Addr} {h : Heap} {b : Addr} {o : Obj} (hb : b ∈ fp) (e : h.get? b = some o) : (b, o) ∈ pinsAt fp h := List.mem_filterMap.mpr ⟨b, hb, by rw [e]; rfl⟩
theorem of_pinsAt {fp : List Addr} {h : Heap} {p : Addr × Obj} (hp : p ∈ pinsAt fp h) : p.1 ∈ fp ∧ h.get? p.1 = some p.2 := by
  obtain ⟨b, hb, e⟩ := List.mem_filterMap.mp hp
  cases q : h.get? b with
  | none => rw [q] at e; cases e
  | some o =>
    rw [q] at e
    have e' : (b, o) = p := Option.some.inj e
    subst e'
    exact ⟨hb, q⟩
theorem Inv.pinned {pins : List (Addr × Obj)} {σ : St} {H : Hp} {s : Shared} {fp : List Addr} (I : Inv X pins σ H s) (hf : ∀ b ∈ fp, FpOk X pins H b) (ho : ∀ b ∈ fp, ∃ o, s.heap.get? b = some o ∧ ∀ v, o.data ≠ .cell v) : Inv X (pins ++ pinsAt fp s.heap) σ H s :=
  I.pins_of fun p hp => (List.mem_append.mp hp).elim (fun z => I.pin p (List.mem_append_right _ z)) fun z => by
    obtain ⟨hb, e⟩ := of_pinsAt z
    obtain ⟨f0, f1, f2, _⟩ := hf p.1 hb
    obtain ⟨o, e', d⟩ := ho p.1 hb
    rw [e] at e'; cases e'
    exact ⟨e, f0, f1, f2, d⟩
theorem Inv.unpinned {pins pl : List (Addr × Obj)} {σ : St} {H : Hp} {s : Shared} (I : Inv X (pins ++ pl) σ H s) : Inv X pins σ H s := I.pins_of fun p hp => I.pin p (List.mem_append_right _ (List.mem_append_left _ hp))
theorem ps_for {iter : Expr} {body : List Stmt} {wi : TI} {g : TG} {tb : TS} {pos : Pos} (hp : PassesOwn (model X.prog X.w) X.A X.env X.xe) (hc : X.calm = true) (hi : PI X tg iter wi) (hg : PG X tg g) (hb : PSs X body tb)
    (hs : ∀ x, foldedSetIterable iter X.env x = pure x := by intro _; rfl) : PS X (.For tg iter body [] pos) (tFor wi g tb) := by
  intro pins s σ H D I h
  refine wpAny_For (thn (hi pins s σ H _ I h) fun v s1 h1 => thn h1 fun itv s2 h2 => ?_) hs
  obtain ⟨it, fp, tn, J, H2, e, I2, T, st2, f2, W, ⟨m0, w0⟩, turn⟩ := h2
  subst e
  -- what stays true of the iterator's objects through the loop
  have stat : ∀ {H' : Hp}, (∀ b ∈ fp, H' b = none) → ∀ b ∈ fp, FpOk X pins H' b := fun hn b hb => ⟨hn b hb, (f2 b hb).2⟩
  refine codeAny_forLoop_any (fun n s' => ∃ i σ' H', Inv X pins σ' H' s' ∧ tn i s'.heap ∧ (∀ b ∈ fp, H' b = none) ∧ W i n σ' H') ?_ m0 ⟨0, σ, H2, I2, st2, fun b hb => (f2 b hb).1, w0⟩
  rintro n s3 ⟨i, σ3, H3, I3, st3, fr3, w3⟩
  rcases turn i n σ3 H3 w3 with ⟨stop, qn⟩ | ⟨go, N, hN, step⟩
  · refine wpAny_passesOwn hp (thn (T.done X rfl rfl rfl hc i pins s3 σ3 H3 X.xe I3 (stat fr3) st3 stop) fun r s4 ⟨hr, I4⟩ => ?_)
    subst hr
    exact wpAny_execs_nil ⟨σ3, H3, I4, qn⟩
  · refine wpAny_passesOwn hp (thn (T.item X rfl rfl rfl hc i pins s3 σ3 H3 X.xe I3 (stat fr3) st3 go) fun r s4 ⟨u, hr, h4⟩ => ?_)
    subst hr
    refine wpAny_passesOwn hp (thn h4 fun _ s5 ⟨x, H5, I5, r5, y5, st5, fr5⟩ => ?_)
    have I5' := I5.pinned (stat fr5) (T.obj _ _ st5)
    refine wpAny_passesOwn hp (thn (hg _ s5 σ3 H5 x u _ I5' r5 (step x H5 y5)) fun _ s6 ⟨σ6, H6, I6, q6⟩ => ?_)
    refine wpAny_passesOwn hp (thn (hb _ s6 σ6 H6 _ I6 q6) fun f s7 q7 => ?_)
    have again : ∀ {σ7 : St} {H7 : Hp}, Inv X (pins ++ pinsAt fp s5.heap) σ7 H7 s7 → N σ7 H7 → ∃ m, m < n ∧ ∃ i σ' H', Inv X pins σ' H' s7 ∧ tn i s7.heap ∧ (∀ b ∈ fp, H' b = none) ∧ W i m σ' H' := fun {σ7 H7} I7 n7 => by
      obtain ⟨m', hm, w7⟩ := hN σ7 H7 n7
      refine ⟨m', hm, i + 1, σ7, H7, I7.unpinned, T.keep _ _ _ st5 fun b hb o e => (I7.pin (b, o) (List.mem_append_right _ (List.mem_append_right _ (mem_pinsAt hb e)))).1, fun b hb => ?_, w7⟩
      obtain ⟨o, e, d⟩ := T.obj _ _ st5 b hb
      exact (I7.pin (b, o) (List.mem_append_right _ (List.mem_append_right _ (mem_pinsAt hb e)))).2.1
    cases f with
    | next => obtain ⟨σ7, H7, I7, n7⟩ := q7; exact again I7 n7
    | cont => obtain ⟨σ7, H7, I7, n7⟩ := q7; exact again I7 n7
    | brk => obtain ⟨σ7, H7, I7, q7⟩ := q7; exact ⟨σ7, H7, I7.unpinned, q7⟩
    | ret v => obtain ⟨x7, σ7, H7, I7, r7, q7⟩ := q7; exact ⟨x7, σ7, H7, I7.unpinned, r7, q7⟩
end
/-- over a list that the body leaves as it is -/
theorem for_list {K : PySem.W.Frag} {a : Addr} {xs : List V} {g : TG} {tb : TS} {D : Ends} {σ : St} {H : Hp} (Pv : Nat → St → Hp → Prop) (h0 : Pv 0 σ H) (hl : ∀ i σ H, i ≤ xs.length → Pv i σ H → SqL K H a xs)
    (hs : ∀ i x σ H, xs[i]? = some x → Pv i σ H → g x σ H fun σ2 H2 => tb { D with nx := Pv (i + 1), ct := Pv (i + 1), bk := D.nx } σ2 H2) (hd : ∀ σ H, Pv xs.length σ H → D.nx σ H) :
    ∃ W : Nat → Nat → St → Hp → Prop, (∃ m, W 0 m σ H) ∧ ∀ i m σ H, W i m σ H →
      ((Itl K a).stop i H ∧ D.nx σ H) ∨ ((Itl K a).go i H ∧ ∃ N : St → Hp → Prop, (∀ σ' H', N σ' H' → ∃ m', m' < m ∧ W (i + 1) m' σ' H') ∧ ∀ x H', (Itl K a).yld i H x H' → g x σ H' fun σ2 H2 => tb { D with nx := N, ct := N, bk := D.nx } σ2 H2) := by
  refine ⟨fun i m σ H => m = xs.length - i ∧ i ≤ xs.length ∧ Pv i σ H, ⟨xs.length, by simp, Nat.zero_le _, h0⟩, ?_⟩
  rintro i m σ H ⟨rfl, hi, p⟩
  have q := hl i σ H hi p
  by_cases hlt : i < xs.length
  · refine .inr ⟨⟨xs, xs[i], q, by simp [hlt]⟩, Pv (i + 1), fun σ' H' p' => ⟨xs.length - (i + 1), by omega, rfl, hlt, p'⟩, fun x H' y => ?_⟩
    obtain ⟨e, y⟩ := y
    subst e
    exact hs i x σ _ (y xs q) p
  · have e : i = xs.length := by omega
    subst e
    exact .inl ⟨⟨xs, q, Nat.le_refl _⟩, hd σ H p⟩
end L2
namespace L2
open PySem PySem.Spec PyProof.Rows
abbrev R2 := V → V → Hp → VK → Prop
/-- a two-place operation on values: f is binaryOp op, inplaceOp op or compareOp op -/
def OpR (X : Cx) (f : Value → Value → Sem Value) (r : R2) : Prop :=
  ∀ (pins : List (Addr × Obj)) (s : Shared) (σ : St) (H : Hp) (x y : V) (v u : Value) (Q : VK), Inv X pins σ H s → RelV x v → RelV y u → r x y H Q →
    wpAny (model X.prog X.w) X.A (f v u) (EP X pins σ Q) X.xe s
/-- a one-place operation -/
def UnR (X : Cx) (f : Value → Sem Value) (r : V → Hp → VK → Prop) : Prop :=
  ∀ (pins : List (Addr × Obj)) (s : Shared) (σ : St) (H : Hp) (x : V) (v : Value) (Q : VK), Inv X pins σ H s → RelV x v → r x H Q →
    wpAny (model X.prog X.w) X.A (f v) (EP X pins σ Q) X.xe s
/-- a call of a value that is known (a builtin, a type) with values -/
def CallR (X : Cx) (f : Value) (r : List V → Hp → VK → Prop) : Prop :=
  ∀ (pins : List (Addr × Obj)) (s : Shared) (σ : St) (H : Hp) (xs : List V) (us : List Value) (Q : VK), Inv X pins σ H s → Vals xs us → r xs H Q →
    wpAny (model X.prog X.w) X.A (call f us) (EP X pins σ Q) X.xe s
/-- a value's truth -/
def TruR (X : Cx) (r : V → Hp → (Bool → Hp → Prop) → Prop) : Prop :=
  ∀ (pins : List (Addr × Obj)) (s : Shared) (σ : St) (H : Hp) (x : V) (v : Value) (Q : Bool → Hp → Prop), Inv X pins σ H s → RelV x v → r x H Q →
    wpAny (model X.prog X.w) X.A (truthy v) (TP X pins σ Q) X.xe s
def tOp (r : R2) (ta tb : TE) : TE := fun σ H Q => ta σ H fun x H1 => tb σ H1 fun y H2 => r x y H2 Q
def tUn (r : V → Hp → VK → Prop) (ta : TE) : TE := fun σ H Q => ta σ H fun x H1 => r x H1 Q
/-- ints in, under C, and a value out -/
def rI (C : Int → Int → Prop) (g : Int → Int → V) : R2 := fun x y H Q => ∃ i j, x = .int i ∧ y = .int j ∧ C i j ∧ Q (g i j) H
def rI0 (g : Int → Int → V) : R2 := fun x y H Q => ∃ i j, x = .int i ∧ y = .int j ∧ Q (g i j) H
def rU (g : Int → V) : V → Hp → VK → Prop := fun x H Q => ∃ i, x = .int i ∧ Q (g i) H
section
variable {X : Cx} {a b c : Expr} {ta tb tc : TE} {pos : Pos}
theorem binT (ha : PE X a ta) (hb : PE X b tb) {pins : List (Addr × Obj)} {s : Shared} {σ : St} {H : Hp} {R : V → V → Hp → Prop} (I : Inv X pins σ H s)
    (h : ta σ H fun x H1 => tb σ H1 fun y H2 => R x y H2) {Q : Value → Shared → Prop} {f : Value → Value → Sem Value}
    (hf : ∀ v u s2 x y H2, Inv X pins σ H2 s2 → RelV x v → RelV y u → R x y H2 → wpAny (model X.prog X.w) X.A (f v u) Q X.xe s2) :
    wpAny (model X.prog X.w) X.A (eval a X.env) (fun v s₁ => wpAny (model X.prog X.w) X.A (eval b X.env) (fun u s₂ => wpAny (model X.prog X.w) X.A (f v u) Q X.xe s₂) X.xe s₁) X.xe s := by
  refine thn (ha pins s σ H _ I h) fun v s1 ⟨x, H1, I1, r1, q1⟩ => ?_
  refine thn (hb pins s1 σ H1 _ I1 q1) fun u s2 ⟨y, H2, I2, r2, q2⟩ => ?_
  exact hf v u s2 x y H2 I2 r1 r2 q2
theorem pe_op {op : Operator} {r : R2} (ho : OpR X (binaryOp op) r) (ha : PE X a ta) (hb : PE X b tb) : PE X (.BinOp a op b pos) (tOp r ta tb) := by
  intro pins s σ H Q I h
  exact wpAny_BinOp (binT ha hb I h fun v u s2 x y H2 I2 rx ry q => ho pins s2 σ H2 x y v u Q I2 rx ry q)
theorem pe_un {op : UnaryOp} {r : V → Hp → VK → Prop} (ho : UnR X (unaryOp op) r) (ha : PE X a ta) : PE X (.UnaryOp op a pos) (tUn r ta) := by
  intro pins s σ H Q I h
  exact UnaryOp_ (thn (ha pins s σ H _ I h) fun v s1 ⟨x, H1, I1, r1, q1⟩ => ho pins s1 σ H1 x v Q I1 r1 q1)
theorem opI {f : Value → Value → Sem Value} {C : Int → Int → Prop} {g : Int → Int → Int}
    (rule : ∀ (i j : Int) (t u : Tok) (s : Shared) (Q : Value → Shared → Prop) (E : Value → Shared → Prop), C i j → Q (.int (g i j) s.toks) { s with toks := s.toks + 1 } → wpAny (model X.prog X.w) X.A (f (.int i t) (.int j u)) Q E s) :
    OpR X f (rI C fun i j => .int (g i j)) := by
  intro pins s σ H x y v u Q I rx ry h
  obtain ⟨i, j, rfl, rfl, hc, q⟩ := h
  obtain ⟨t, rfl⟩ := rx
  obtain ⟨t', rfl⟩ := ry
  exact rule i j t t' s _ _ hc ⟨.int (g i j), H, I.tok _, ⟨_, rfl⟩, q⟩
theorem opI0 {f : Value → Value → Sem Value} {g : Int → Int → Int}
    (rule : ∀ (i j : Int) (t u : Tok) (s : Shared) (Q : Value → Shared → Prop) (E : Value → Shared → Prop), Q (.int (g i j) s.toks) { s with toks := s.toks + 1 } → wpAny (model X.prog X.w) X.A (f (.int i t) (.int j u)) Q E s) :
    OpR X f (rI0 fun i j => .int (g i j)) := by
  intro pins s σ H x y v u Q I rx ry h
  obtain ⟨i, j, rfl, rfl, q⟩ := h
  obtain ⟨t, rfl⟩ := rx
  obtain ⟨t', rfl⟩ := ry
  exact rule i j t t' s _ _ ⟨.int (g i j), H, I.tok _, ⟨_, rfl⟩, q⟩
theorem opB0 {f : Value → Value → Sem Value} {g : Int → Int → Bool}
    (rule : ∀ (i j : Int) (t u : Tok) (s : Shared) (Q : Value → Shared → Prop) (E : Value → Shared → Prop), Q (.bool (g i j)) s → wpAny (model X.prog X.w) X.A (f (.int i t) (.int j u)) Q E s) :
    OpR X f (rI0 fun i j => .bl (g i j)) := by
  intro pins s σ H x y v u Q I rx ry h
  obtain ⟨i, j, rfl, rfl, q⟩ := h
  obtain ⟨t, rfl⟩ := rx
  obtain ⟨t', rfl⟩ := ry
  exact rule i j t t' s _ _ ⟨.bl (g i j), H, I, rfl, q⟩
def CDiv (i j : Int) : Prop := 0 < j ∧ j < 1073741824
def CDivN (i j : Int) : Prop := j ≠ 0 ∧ j.natAbs < 1073741824
def CPow (i j : Int) : Prop := 0 ≤ j ∧ j ≤ 1000000 ∧ i.natAbs < 2 ^ 64
def CMul (i j : Int) : Prop := (-(2 ^ 64) < i ∧ i < 2 ^ 64) ∨ (-(2 ^ 64) < j ∧ j < 2 ^ 64)
theorem CMul.ok {i j : Int} (h : CMul i j) : IntMulOk i j := by
  rcases h with ⟨h1, h2⟩ | ⟨h1, h2⟩
  · exact .of_left (intBits_le_64 h1 h2)
  · exact .of_right (intBits_le_64 h1 h2)
theorem op_add : OpR X (binaryOp .Add) (rI0 fun i j => .int (i + j)) := opI0 fun _ _ _ _ _ _ _ q => add_int q
theorem op_sub : OpR X (binaryOp .Sub) (rI0 fun i j => .int (i - j)) := opI0 fun _ _ _ _ _ _ _ q => sub_int q
theorem op_mul : OpR X (binaryOp .Mult) (rI CMul fun i j => .int (i * j)) := opI fun _ _ _ _ _ _ _ hc q => mul_int q hc.ok
/-- // by a positive divisor -/
theorem op_fdiv : OpR X (binaryOp .FloorDiv) (rI CDiv fun i j => .int (i / j)) := opI fun i j _ _ _ _ _ hc q => by
  have h1 : (0 : Int) < j := hc.1
  have h2 : j < 1073741824 := hc.2
  exact floordiv_int (by omega) (by rw [Int.fdiv_eq_ediv_of_nonneg i (by omega)]; exact q) (.inl (PyProof.noPylong_small (by omega)))
/-- % by a positive divisor of any size -/
theorem op_mod : OpR X (binaryOp .Mod) (rI (fun _ j => 0 < j) fun i j => .int (i % j)) := opI fun i j _ _ _ _ _ hc q => by
  have h1 : (0 : Int) < j := hc
  exact mod_int' (by omega) (by rw [Int.fmod_eq_emod_of_nonneg i (by omega)]; exact q)
theorem op_pow : OpR X (binaryOp .Pow) (rI CPow fun i j => .int (i ^ j.toNat)) := opI fun _ _ _ _ _ _ _ hc q => pow_int_small hc.1 hc.2.1 hc.2.2 q
theorem unI {f : Value → Sem Value} {g : Int → Int}
    (rule : ∀ (i : Int) (t : Tok) (s : Shared) (Q : Value → Shared → Prop) (E : Value → Shared → Prop), Q (.int (g i) s.toks) { s with toks := s.toks + 1 } → wpAny (model X.prog X.w) X.A (f (.int i t)) Q E s) :
    UnR X f (rU fun i => .int (g i)) := by
  intro pins s σ H x v Q I rx h
  obtain ⟨i, rfl, q⟩ := h
  obtain ⟨t, rfl⟩ := rx
  exact rule i t s _ _ ⟨.int (g i), H, I.tok _, ⟨_, rfl⟩, q⟩
theorem un_neg : UnR X (unaryOp .USub) (rU fun i => .int (-i)) := unI fun _ _ _ _ _ q => neg_int q
end
/-- the scalars that == tells apart as data does -/
def scal : V → V → Bool
  | .non, .non => true | .non, .int _ => true | .int _, .non => true | .non, .bl _ => true | .bl _, .non => true | .non, .str _ => true | .str _, .non => true
  | .int _, .int _ => true | .bl _, .bl _ => true | .str _, .str _ => true | .byt _, .byt _ => true
  | .int _, .str _ => true | .str _, .int _ => true | .bl _, .str _ => true | .str _, .bl _ => true
  | _, _ => false
def rEq : R2 := fun x y H Q => scal x y = true ∧ Q (.bl (decide (x = y))) H
def rNe : R2 := fun x y H Q => scal x y = true ∧ Q (.bl (!decide (x = y))) H
theorem dec_int {i j : Int} : decide (V.int i = V.int j) = (i == j) := by
  rw [Bool.eq_iff_iff]
  simp
theorem dec_bl {i j : Bool} : decide (V.bl i = V.bl j) = (i == j) := by
  rw [Bool.eq_iff_iff]
  simp
theorem dec_str {i j : Str} : decide (V.str i = V.str j) = (i == j) := by
  rw [Bool.eq_iff_iff]
  simp
theorem dec_byt {i j : Array UInt8} : decide (V.byt i = V.byt j) = (i.toList == j.toList) := by
  rw [Bool.eq_iff_iff]
  cases i
  cases j
  simp
section
variable {X : Cx} {a b c : Expr} {ta tb tc : TE} {pos : Pos}
theorem fin_bl {pins : List (Addr × Obj)} {σ : St} {H : Hp} {s : Shared} {Q : VK} {k k' : Bool} (I : Inv X pins σ H s) (q : Q (.bl k) H) (e : k = k') : EP X pins σ Q (.bool k') s := by
  subst e
  exact ⟨.bl k, H, I, rfl, q⟩
theorem op_eq : OpR X (compareOp .Eq) rEq := by
  intro pins s σ H x y v u Q I rx ry h
  obtain ⟨hs, q⟩ := h
  cases x with
  | non =>
    cases rx
    cases y with
    | non => cases ry; exact PySem.EqNone.eq_none_none (fin_bl I q (by simp))
    | bl j => cases ry; exact PySem.EqNone.eq_none_bool (fin_bl I q (by simp))
    | int j => obtain ⟨t', rfl⟩ := ry; exact PySem.EqNone.eq_none_int (fin_bl I q (by simp))
    | str j => obtain ⟨t', rfl⟩ := ry; exact PySem.EqNone.eq_none_str (fin_bl I q (by simp))
    | _ => exact absurd (show false = true from hs) Bool.false_ne_true
  | bl i =>
    cases rx
    cases y with
    | non => cases ry; exact PySem.EqNone.eq_bool_none (fin_bl I q (by simp))
    | bl j => cases ry; exact eq_bool (fin_bl I q dec_bl)
    | str j => obtain ⟨t', rfl⟩ := ry; exact PySem.EqMixed.eq_bool_str (fin_bl I q (by simp))
    | _ => exact absurd (show false = true from hs) Bool.false_ne_true
  | int i =>
    obtain ⟨t, rfl⟩ := rx
    cases y with
    | non => cases ry; exact PySem.EqNone.eq_int_none (fin_bl I q (by simp))
    | int j => obtain ⟨t', rfl⟩ := ry; exact eq_int (fin_bl I q dec_int)
    | str j => obtain ⟨t', rfl⟩ := ry; exact PySem.EqMixed.eq_int_str (fin_bl I q (by simp))
    | _ => exact absurd (show false = true from hs) Bool.false_ne_true
  | str i =>
    obtain ⟨t, rfl⟩ := rx
    cases y with
    | non => cases ry; exact PySem.EqNone.eq_str_none (fin_bl I q (by simp))
    | bl j => cases ry; exact PySem.EqMixed.eq_str_bool (fin_bl I q (by simp))
    | int j => obtain ⟨t', rfl⟩ := ry; exact PySem.EqMixed.eq_str_int (fin_bl I q (by simp))
    | str j => obtain ⟨t', rfl⟩ := ry; exact eq_str (fin_bl I q dec_str)
    | _ => exact absurd (show false = true from hs) Bool.false_ne_true
  | byt i =>
    obtain ⟨t, rfl⟩ := rx
    cases y with
    | byt j => obtain ⟨t', rfl⟩ := ry; exact PySem.W.eq_bytes (fin_bl I q dec_byt)
    | _ => exact absurd (show false = true from hs) Bool.false_ne_true
  | _ => cases y <;> exact absurd (show false = true from hs) Bool.false_ne_true
theorem op_ne : OpR X (compareOp .NotEq) rNe := by
  intro pins s σ H x y v u Q I rx ry h
  obtain ⟨hs, q⟩ := h
  cases x with
  | non =>
    cases rx
    cases y with
    | non => cases ry; exact PySem.EqNone.ne_none_none (fin_bl I q (by simp))
    | bl j => cases ry; exact PySem.EqNone.ne_none_bool (fin_bl I q (by simp))
    | int j => obtain ⟨t', rfl⟩ := ry; exact PySem.EqNone.ne_none_int (fin_bl I q (by simp))
    | str j => obtain ⟨t', rfl⟩ := ry; exact PySem.EqNone.ne_none_str (fin_bl I q (by simp))
    | _ => exact absurd (show false = true from hs) Bool.false_ne_true
  | bl i =>
    cases rx
    cases y with
    | non => cases ry; exact PySem.EqNone.ne_bool_none (fin_bl I q (by simp))
    | bl j => cases ry; exact ne_bool (fin_bl I q (congrArg not dec_bl))
    | str j => obtain ⟨t', rfl⟩ := ry; exact PySem.EqMixed.ne_bool_str (fin_bl I q (by simp))
    | _ => exact absurd (show false = true from hs) Bool.false_ne_true
  | int i =>
    obtain ⟨t, rfl⟩ := rx
    cases y with
    | non => cases ry; exact PySem.EqNone.ne_int_none (fin_bl I q (by simp))
    | int j => obtain ⟨t', rfl⟩ := ry; exact ne_int (fin_bl I q (congrArg not dec_int))
    | str j => obtain ⟨t', rfl⟩ := ry; exact PySem.EqMixed.ne_int_str (fin_bl I q (by simp))
    | _ => exact absurd (show false = true from hs) Bool.false_ne_true
  | str i =>
    obtain ⟨t, rfl⟩ := rx
    cases y with
    | non => cases ry; exact PySem.EqNone.ne_str_none (fin_bl I q (by simp))
    | bl j => cases ry; exact PySem.EqMixed.ne_str_bool (fin_bl I q (by simp))
    | int j => obtain ⟨t', rfl⟩ := ry; exact PySem.EqMixed.ne_str_int (fin_bl I q (by simp))
    | str j => obtain ⟨t', rfl⟩ := ry; exact ne_str (fin_bl I q (congrArg not dec_str))
    | _ => exact absurd (show false = true from hs) Bool.false_ne_true
  | byt i =>
    obtain ⟨t, rfl⟩ := rx
    cases y with
    | byt j => obtain ⟨t', rfl⟩ := ry; exact PySem.W.ne_bytes (fin_bl I q (congrArg not dec_byt))
    | _ => exact absurd (show false = true from hs) Bool.false_ne_true
  | _ => cases y <;> exact absurd (show false = true from hs) Bool.false_ne_true
theorem op_lt : OpR X (compareOp .Lt) (rI0 fun i j => .bl (decide (i < j))) := opB0 fun _ _ _ _ _ _ _ q => lt_int q
theorem op_le : OpR X (compareOp .LtE) (rI0 fun i j => .bl (decide (i ≤ j))) := opB0 fun _ _ _ _ _ _ _ q => le_int q
theorem op_gt : OpR X (compareOp .Gt) (rI0 fun i j => .bl (decide (j < i))) := opB0 fun _ _ _ _ _ _ _ q => gt_int q
theorem op_ge : OpR X (compareOp .GtE) (rI0 fun i j => .bl (decide (j ≤ i))) := opB0 fun _ _ _ _ _ _ _ q => ge_int q
/-- is None, is not None: the right side a value none -/
theorem op_isN : OpR X (compareOp .Is) (fun x y H Q => y = .non ∧ Q (.bl (decide (x = .non))) H) := by
  intro pins s σ H x y v u Q I rx ry h
  obtain ⟨rfl, q⟩ := h
  cases ry
  refine is_none_gen (fin_bl I q ?_)
  cases x <;> first
    | (cases rx; rfl)
    | (obtain ⟨t, rfl⟩ := rx; rfl)
theorem op_notN : OpR X (compareOp .IsNot) (fun x y H Q => y = .non ∧ Q (.bl (!decide (x = .non))) H) := by
  intro pins s σ H x y v u Q I rx ry h
  obtain ⟨rfl, q⟩ := h
  cases ry
  refine isnot_none_gen (fin_bl I q ?_)
  cases x <;> first
    | (cases rx; rfl)
    | (obtain ⟨t, rfl⟩ := rx; rfl)
/-- is, is not of two objects that are tracked lists or instances -/
def isObj : HO → Bool
  | .lst _ => true
  | .ins _ _ _ => true
  | _ => false
/-- two rules for one operation: by cases -/
theorem OpR.or {f : Value → Value → Sem Value} {r r' : R2} (h : OpR X f r) (h' : OpR X f r') : OpR X f (fun x y H Q => r x y H Q ∨ r' x y H Q) := by
  intro pins s σ H x y v u Q I rx ry q
  rcases q with q | q
  · exact h pins s σ H x y v u Q I rx ry q
  · exact h' pins s σ H x y v u Q I rx ry q
theorem nomark (b : Expr) {op : CmpOp} (h : op ≠ .In := by decide) (h2 : op ≠ .NotIn := by decide) : behindInMarks op b = false := by
  have e1 : (op == CmpOp.In) = false := by cases op <;> first | rfl | exact absurd rfl h
  have e2 : (op == CmpOp.NotIn) = false := by cases op <;> first | rfl | exact absurd rfl h2
  cases b <;> simp [behindInMarks, e1, e2]
/-- a comparison as a value; hm: nomark b, or (for in, not in) by with_unfolding_all rfl -/
theorem pe_cmpR {op : CmpOp} {r : R2} (ho : OpR X (compareOp op) r) (ha : PE X a ta) (hb : PE X b tb) (hm : behindInMarks op b = false) : PE X (.Compare a [op] [b] pos) (tOp r ta tb) := by
  intro pins s σ H Q I h
  exact wpAny_Compare1 (binT ha hb I h fun v u s2 x y H2 I2 rx ry q => ho pins s2 σ H2 x y v u Q I2 rx ry q) hm
/-- a reading of a value as a test -/
def tTest (t : TE) : TT := fun σ H Q => t σ H fun x H' => ∃ k, x = .bl k ∧ Q k H'
theorem pt_cmpR {op : CmpOp} {r : R2} (ho : OpR X (compareOp op) r) (ha : PE X a ta) (hb : PE X b tb) (hm : behindInMarks op b = false) : PT X (.Compare a [op] [b] pos) (tTest (tOp r ta tb)) := by
  intro pins s σ H Q I h
  refine wpAny_isTrue_Compare1 (thn (ha pins s σ H _ I h) fun v s1 ⟨x, H1, I1, r1, q1⟩ => thn (hb pins s1 σ H1 _ I1 q1) fun u s2 ⟨y, H2, I2, r2, q2⟩ =>
    thn (ho pins s2 σ H2 x y v u _ I2 r1 r2 q2) fun c s3 ⟨z, H3, I3, r3, k, e, q3⟩ => ?_) hm
  subst e
  cases r3
  exact wpAny_truthy_bool ⟨H3, I3, q3⟩
/-- a op1 b op2 c -/
def tChain (r r' : R2) (ta tb tc : TE) : TE := fun σ H Q => ta σ H fun x H1 => tb σ H1 fun y H2 => r x y H2 fun z H3 => ∃ k, z = .bl k ∧
  (if k = true then tc σ H3 fun w' H4 => r' y w' H4 Q else Q (.bl false) H3)
/-- a value's truth by the abstract heap -/
def TruV (K : PySem.W.Frag) (x : V) (H : Hp) (k : Bool) : Prop :=
  match x with
  | .non => k = false
  | .bl b => k = b
  | .int i => k = (i != 0)
  | .str y => y.length ≤ sizeLine ∧ k = ((y.length : Int) != 0)
  | .byt y => y.size ≤ sizeLine ∧ k = ((y.size : Int) != 0)
  | .ref p => (∃ xs, SqL K H p xs ∧ k = !xs.isEmpty) ∨ (∃ xs, SqT K H p xs ∧ k = !xs.isEmpty) ∨ ∃ kvs, H p = some (.dK kvs) ∧ k = !kvs.isEmpty
  | _ => False
theorem line63 : (sizeLine : Nat) < 2 ^ 63 := by rw [sizeLine_eq]; decide
theorem op_add_str : OpR X (binaryOp .Add) (fun x y H Q => ∃ i j, x = .str i ∧ y = .str j ∧ i.length + j.length ≤ sizeLine ∧ Q (.str (i ++ j)) H) := by
  intro pins s σ H x y v u Q I rx ry h
  obtain ⟨i, j, rfl, rfl, hz, q⟩ := h
  obtain ⟨t, rfl⟩ := rx
  obtain ⟨t', rfl⟩ := ry
  exact add_str (fun t' tk => ⟨.str (i ++ j), H, I.tok _, ⟨_, rfl⟩, q⟩) hz
def PlainIxT (b : Expr) : Prop := ∀ o i, subscripted b false o i = operate [o, i] (getItem o i)
theorem vals1 {x : V} {us : List Value} (r : Vals [x] us) : ∃ u, us = [u] ∧ RelV x u := by
  cases r with
  | cons r1 r2 => cases r2; exact ⟨_, rfl, r1⟩
theorem vals2 {x y : V} {us : List Value} (r : Vals [x, y] us) : ∃ u w', us = [u, w'] ∧ RelV x u ∧ RelV y w' := by
  cases r with
  | cons r1 r2 =>
    cases r2 with
    | cons r3 r4 => cases r4; exact ⟨_, _, rfl, r1, r3⟩
theorem call_int1 : CallR X (.type "int") (fun xs H Q => (∃ i, xs = [.int i] ∧ Q (.int i) H) ∨ ∃ k, xs = [.bl k] ∧ Q (.int (if k then 1 else 0)) H) := by
  intro pins s σ H xs us Q I r h
  rcases h with ⟨i, rfl, q⟩ | ⟨k, rfl, q⟩
  · obtain ⟨u, rfl, t, rfl⟩ := vals1 r
    exact call_int_int ⟨.int i, H, I, ⟨_, rfl⟩, q⟩
  · obtain ⟨u, rfl, r1⟩ := vals1 r
    cases r1
    exact call_int_bool ⟨.int (if k then 1 else 0), H, I.tok _, ⟨_, rfl⟩, q⟩
/-- len of a str, a bytes, a list, a tuple -/
def LenV (K : PySem.W.Frag) (x : V) (H : Hp) (n : Nat) : Prop :=
  match x with
  | .str y => y.length ≤ sizeLine ∧ n = y.length
  | .byt y => y.size ≤ sizeLine ∧ n = y.size
  | .ref p => (∃ xs, SqL K H p xs ∧ n = xs.length) ∨ ∃ xs, SqT K H p xs ∧ n = xs.length
  | _ => False
end
end L2
namespace L2
open PySem PySem.Spec PyProof.Rows
structure ObjM (h : Heap) (x dx C : Addr) (mA : Str → Option Value) : Prop where
  obj : h.get? x = some (PySem.W.instObj C dx)
  ns : h.Ns1 dx mA
  ne : dx ≠ x
theorem lookIn_ns {h : Heap} {dx : Addr} {mA : Str → Option Value} (n : h.Ns1 dx mA) : ∃ od, h.get? dx = some od ∧ ∀ name, PySem.W.lookIn name od = some (mA name) := by
  obtain ⟨o, es, ep, ho, hd, hk, _, hm⟩ := n
  refine ⟨o, ho, fun name => ?_⟩
  have e := hm name
  unfold nsFind findBy at e
  rw [← Array.find?_toList] at e
  unfold PySem.W.lookIn
  rw [hd]
  dsimp only
  split
  · rename_i y q
    rw [q] at e
    exact congrArg some e
  · rename_i q
    rw [q] at e
    have a : es.toList.any (·.refKey) = false := by
      rw [List.any_eq_false]
      intro y hy
      obtain ⟨z, t, hkey⟩ := hk y (Array.mem_toList_iff.mp hy)
      simp [DictEntry.refKey, hkey]
    have a' : ¬ es.toList.any (·.refKey) = true := by rw [a]; exact Bool.false_ne_true
    rw [if_neg a']
    exact congrArg some e
theorem ObjM.look {h : Heap} {x dx C : Addr} {mA : Str → Option Value} (I : ObjM h x dx C mA) : ∃ od, PySem.W.InstAt h x (PySem.W.instObj C dx) C (some od) ∧ ∀ name, PySem.W.lookIn name od = some (mA name) :=
  let ⟨od, ho, hl⟩ := lookIn_ns I.ns
  ⟨od, ⟨I.obj, rfl, rfl, ho⟩, hl⟩
section
variable {prog : Program} {w : World} {A : Around} {E : Value → Shared → Prop} {s : Shared} {K : PySem.W.Frag} {x dx C f : Addr} {mA : Str → Option Value} {name : Str} {v : Value}
end
def putF (f : Str) (v : V) : List (Str × V) → List (Str × V)
  | [] => [(f, v)]
  | (g, x) :: r => if g = f then (g, v) :: r else (g, x) :: putF f v r
section
variable {P : Program} {w : World} {H H' : Hp} {h h' : Heap} {a C dx : Addr} {fs fs' : List (Str × V)}
end
structure Cls (K : PySem.W.Frag) (C : Addr) : Prop where
  pg : PySem.W.plainGet K C Str.empty = true
  hd : PySem.W.hasDictIn K C = true
  po : PySem.W.plainOver K C = true
  sa : PySem.W.findIn K (.ref C) "__setattr__" = some (some (.builtin "object.__setattr__"))
theorem Cls.get {K : PySem.W.Frag} {C : Addr} (c : Cls K C) (f : Str) : PySem.W.plainGet K C f = true := c.pg
/-- no class of it has the name -/
def NoAttr (K : PySem.W.Frag) (C : Addr) (f : Str) : Prop := PySem.W.findIn K (.ref C) f = some none
/-- a constant of the class -/
structure Con (K : PySem.W.Frag) (C : Addr) (f : Str) (v : V) (u : Value) : Prop where
  at_ : PySem.W.findIn K (.ref C) f = some (some u)
  rel : RelV v u
  get : PySem.W.specialIn K u "__get__" = some none
  cp : PySem.W.copiedNames.contains f = false
/-- a method: a plain def of the class or of one above it -/
structure Meth (K : PySem.W.Frag) (C : Addr) (m : Str) (f : Addr) : Prop where
  at_ : PySem.W.findIn K (.ref C) m = some (some (.ref f))
  fn : PySem.W.isFn K (.ref f) = true
  kp : PySem.W.keepIn K (.ref f) = true
section
variable {X : Cx} {pins : List (Addr × Obj)} {σ : St} {H : Hp} {s : Shared} {a C dx : Addr} {fs : List (Str × V)} {f : Str} {v : V} {A : Around} {E : Value → Shared → Prop}
/-- a new instance, tracked, without attributes -/
theorem Inv.made (I : Inv X pins σ H s) : Inv X pins σ (upd (upd H s.heap.objs.size (.own (s.heap.objs.size + 1))) (s.heap.objs.size + 1) (.ins C s.heap.objs.size []))
    { s with heap := (s.heap.push PySem.W.emptyDict).push (PySem.W.instObj C s.heap.objs.size) } := by
  have e1 : (s.heap.push PySem.W.emptyDict).get? s.heap.objs.size = some PySem.W.emptyDict := Heap.get?_push_size s.heap rfl
  have e2 : ((s.heap.push PySem.W.emptyDict).push (PySem.W.instObj C s.heap.objs.size)).get? (s.heap.objs.size + 1) = some (PySem.W.instObj C s.heap.objs.size) := by
    have := Heap.get?_push_size (s.heap.push PySem.W.emptyDict) (o := PySem.W.instObj C s.heap.objs.size) rfl
    rwa [Heap.size_push] at this
  have e3 : (s.heap.push PySem.W.emptyDict).Ns s.heap.objs.size (fun _ => none) := ⟨PySem.W.emptyDict, #[], _, e1, rfl, (fun e he => absurd he (by simp)), fun _ => rfl⟩
  have I1 := I.laid (a := s.heap.objs.size) (o := .own (s.heap.objs.size + 1)) (h' := s.heap.push PySem.W.emptyDict) (t' := s.toks) (fun b u q => Heap.get?_push_of_some _ q) (Nat.le_refl _) ⟨_, e1⟩
  refine I1.laid (a := s.heap.objs.size + 1) (o := .ins C s.heap.objs.size []) (t' := s.toks) (fun b u q => Heap.get?_push_of_some _ q) (Nat.le_of_eq (Heap.size_push _ _)) ?_
  have ne : s.heap.objs.size ≠ s.heap.objs.size + 1 := Nat.ne_of_lt (Nat.lt_succ_self _)
  refine ⟨by rw [upd_ne ne, upd_same], Nat.zero_le _, ne, e2, fun _ => none, (Heap.Ns1.of_empty e3).at fun o q => Heap.get?_push_of_some _ q, fun _ => True.intro, fun y hy => absurd rfl hy⟩
end
/-- e.f, an attribute of the instance -/
def tFld (K : PySem.W.Frag) (ta : TE) (f : Str) : TE := fun σ H Q => ta σ H fun x H1 => ∃ a C dx fs v, x = .ref a ∧ H1 a = some (.ins C dx fs) ∧ Cls K C ∧ NoAttr K C f ∧ fs.lookup f = some v ∧ Q v H1
/-- e.f, a constant of the class -/
def tCon (K : PySem.W.Frag) (ta : TE) (f : Str) : TE := fun σ H Q => ta σ H fun x H1 => ∃ a C dx fs v u, x = .ref a ∧ H1 a = some (.ins C dx fs) ∧ Cls K C ∧ Con K C f v u ∧ fs.lookup f = none ∧ Q v H1
/-- e.f = value -/
def sFld (K : PySem.W.Frag) (ta tv : TE) (f : Str) : TS := fun D σ H => tv σ H fun y H1 => ta σ H1 fun x H2 => ∃ a C dx fs, x = .ref a ∧ H2 a = some (.ins C dx fs) ∧ Cls K C ∧ NoAttr K C f ∧ fs.length < 1000 ∧
  D.nx σ (upd H2 a (.ins C dx (putF f y fs)))
/-- an augmented operator on two values -/
def InOp (X : Cx) (op : Operator) (rd : V → V → Hp → VK → Prop) : Prop :=
  ∀ (pins : List (Addr × Obj)) (s : Shared) (σ : St) (H : Hp) (x y : V) (u v : Value) (Q : VK), Inv X pins σ H s → RelV x u → RelV y v → rd x y H Q → wpAny (model X.prog X.w) X.A (inplaceOp op u v) (EP X pins σ Q) X.xe s
/-- e.f op= value -/
def sFldAug (K : PySem.W.Frag) (ta tv : TE) (rd : V → V → Hp → VK → Prop) (f : Str) : TS := fun D σ H => ta σ H fun x H1 => ∃ a C dx fs v, x = .ref a ∧ H1 a = some (.ins C dx fs) ∧ Cls K C ∧ NoAttr K C f ∧ fs.lookup f = some v ∧
  tv σ H1 fun y H2 => rd v y H2 fun z H3 => ∃ dx' fs', H3 a = some (.ins C dx' fs') ∧ fs'.length < 1000 ∧ D.nx σ (upd H3 a (.ins C dx' (putF f z fs')))
section
variable {X : Cx} {o e value : Expr} {f : Str} {pos pos' tpos : Pos} {ta tv : TE}
def rAdd : V → V → Hp → VK → Prop := fun x y H Q => ∃ i j, x = .int i ∧ y = .int j ∧ Q (.int (i + j)) H
def rSub : V → V → Hp → VK → Prop := fun x y H Q => ∃ i j, x = .int i ∧ y = .int j ∧ Q (.int (i - j)) H
end
section
variable {X : Cx} {pins : List (Addr × Obj)} {σ : St} {H : Hp} {s : Shared} {A : Around} {E : Value → Shared → Prop} {Q : Value → Shared → Prop} {c : Value} {b : Bool}
/-- the type of a value, as the fragment's deciders take it; for an instance its class -/
inductive TyOf (K : PySem.W.Frag) (H : Hp) : V → Value → Prop where
  | non : TyOf K H .non (.type "NoneType")
  | bl (x : Bool) : TyOf K H (.bl x) (.type "bool")
  | int (i : Int) : TyOf K H (.int i) (.type "int")
  | str (x : Str) : TyOf K H (.str x) (.type "str")
  | flt (x : UInt64) : TyOf K H (.flt x) (.type "float")
  | lst {a : Addr} {xs : List V} (e : H a = some (.lst xs)) : TyOf K H (.ref a) (.type "list")
  | frz {a : Addr} {o : Obj} {xs : List V} (e : H a = some (.frz o (.lst xs))) : TyOf K H (.ref a) (.type "list")
  | tup {a : Addr} {xs : List V} (e : H a = some (.tup xs)) : TyOf K H (.ref a) (.type "tuple")
  | dK {a : Addr} {kvs : List (Key × V)} (e : H a = some (.dK kvs)) : TyOf K H (.ref a) (.type "dict")
  | dT {a : Addr} {kvs : List (List Key × V)} (e : H a = some (.dT kvs)) : TyOf K H (.ref a) (.type "dict")
  | ins {a C dx : Addr} {fs : List (Str × V)} (e : H a = some (.ins C dx fs)) (cl : Cls K C) (ha : PySem.W.findIn K (.ref C) "__class__" = some (some (.builtin "object.__class__")))
      (hn : PySem.W.specialIn K (.builtin "object.__class__") "__get__" = some (some (.builtin "getset_descriptor.__get__"))) (htk : PySem.W.takesIn K (.builtin "object.__class__") = some true)
      (hm : PySem.W.mroIn K C (.type "object") = some true) : TyOf K H (.ref a) (.ref C)
end
end L2
namespace L2
open PySem PySem.Spec PyProof.Rows
structure Room (k : Nat) (A : Around) : Prop where
  hd : A.handled = none
  dp : A.depth + 3 * k + 5 < recursionLimit
  un : A.units + 16 * k + 200 < cLine
  gd : A.guards = some []
theorem Room.mono {j k : Nat} {A : Around} (r : Room k A) (h : j ≤ k) : Room j A := ⟨r.hd, by have := r.dp; omega, by have := r.un; omega, r.gd⟩
theorem Room.deeper {k : Nat} {A : Around} (r : Room (k + 1) A) (env : Env) : Room k (A.deeper env) :=
  ⟨r.hd, by have := r.dp; show A.depth + 1 + 3 * k + 5 < _; omega, by have := r.un; show A.units + 3 + 16 * k + 200 < _; omega, r.gd⟩
theorem Room.in1 {k : Nat} {A : Around} (r : Room (k + 1) A) : Room k A.in1 :=
  ⟨r.hd, by have := r.dp; show A.depth + 3 * k + 5 < _; omega, by have := r.un; show A.units + 1 + 16 * k + 200 < _; omega, r.gd⟩
theorem Room.depth {k : Nat} {A : Around} (r : Room k A) : A.depth < recursionLimit := by have := r.dp; omega
theorem Room.units {k : Nat} {A : Around} (r : Room k A) : A.units + 64 < cLine := by have := r.un; omega
def tNil : TA := fun _ H Q => Q [] H
def tCons (ta : TE) (tr : TA) : TA := fun σ H Q => ta σ H fun x H1 => tr σ H1 fun xs H2 => Q (x :: xs) H2
section
variable {X : Cx} {e : Expr} {es : List Expr} {te : TE} {t : TA} {pos : Pos}
theorem pa_nil : PA X [] tNil := fun _ _ _ _ H Q I h => Calls.spliced_nil ⟨[], H, I, .nil, h⟩
theorem pa_cons (ha : PE X e te) (hr : PA X es t) (hs : starEach (e :: es) X.env = (false, eval e X.env) :: starEach es X.env := by rfl) : PA X (e :: es) (tCons te t) := by
  intro pos pins s σ H Q I h
  rw [hs]
  show wpAny _ _ (spliced ((false, eval e X.env) :: backTo pos (starEach es X.env))) _ _ s
  refine Calls.spliced_cons (thn (ha pins s σ H _ I h) fun u s1 ⟨x, H1, I1, r1, q1⟩ => ?_)
  exact thn (hr pos pins s1 σ H1 _ I1 q1) fun us s2 ⟨xs, H2, I2, r2, q2⟩ => ⟨x :: xs, H2, I2, .cons r1 r2, q2⟩
/-- a tuple, a list of written items -/
def tTup (t : TA) : TE := fun σ H Q => t σ H fun xs H1 => xs.length ≤ sizeLine ∧ ∀ p, H1 p = none → Q (.ref p) (upd H1 p (.tup xs))
def tLst (t : TA) : TE := fun σ H Q => t σ H fun xs H1 => xs.length ≤ sizeLine ∧ ∀ p, H1 p = none → Q (.ref p) (upd H1 p (.lst xs))
theorem pe_tup {x1} (h : PA X es t) : PE X (.Tuple es x1 pos) (tTup t) := by
  intro pins s σ H Q I hq
  refine wpAny_Tuple_spliced (thn (h pos pins s σ H _ I hq) fun us s1 ⟨xs, H1, I1, r, z, q⟩ => ⟨by rw [← r.length]; exact z, ?_⟩)
  have hf : H1 s1.heap.objs.size = none := I1.hok.fresh (Nat.le_refl _)
  refine ⟨.ref s1.heap.objs.size, upd H1 s1.heap.objs.size (.tup xs), I1.laid (t' := s1.toks) (fun b u e => Heap.get?_push_of_some _ e) (Nat.le_refl _) ?_, rfl, q _ hf⟩
  exact ⟨z, us, r, ⟨_, Heap.get?_push_size _ rfl, rfl, _, rfl⟩⟩
theorem pe_lst (h : PA X es t) : PE X (.List es pos) (tLst t) := by
  intro pins s σ H Q I hq
  refine wpAny_List_spliced (thn (h pos pins s σ H _ I hq) fun us s1 ⟨xs, H1, I1, r, z, q⟩ => ⟨by rw [← r.length]; exact z, ?_⟩)
  have hf : H1 s1.heap.objs.size = none := I1.hok.fresh (Nat.le_refl _)
  refine ⟨.ref s1.heap.objs.size, upd H1 s1.heap.objs.size (.lst xs), I1.laid (t' := s1.toks) (fun b u e => Heap.get?_push_of_some _ e) (Nat.le_refl _) ?_, rfl, q _ hf⟩
  exact ⟨z, us, 0, r, Heap.get?_push_size _ rfl⟩
end
/-- a def's promise: the bound arguments in the parameters' order, the heap, the wanted end, the wanted exception -/
abbrev Sp := List V → Hp → VK → XK → Prop
/-- how an exception lies behind a call (file 08 gives it): the callers' frames, abstract heap and state ahead of the call, the wish, the exception, the state -/
abbrev CXT := List Env → Hp → Shared → XK → Value → Shared → Prop
/-- the state at a call -/
structure Env0 (P : Program) (w : World) (K : PySem.W.Frag) (mg : Str → Option Value) (base : Heap) (A : Around) (outer : List Env) (s : Shared) (H : Hp) : Prop where
  frames : A.frames = some outer
  mod : Mod K mg base
  bs : ∀ b o, base.get? b = some o → s.heap.get? b = some o ∧ H b = none
  bsz : base.objs.size ≤ s.heap.objs.size
  funs : s.heap.FunFrames base outer
  frf : ∀ b ∈ frs outer, H b = none
  hok : HOk P w H s.heap
  bare : AllBare s.gens
/-- a call's end -/
def CE (outer : List Env) (P : Program) (w : World) (H : Hp) (s : Shared) (Q : VK) (u : Value) (s' : Shared) : Prop :=
  ∃ v H', s'.os = s.os ∧ AllBare s'.gens ∧ Un (frs outer) [] H H' s.heap s'.heap ∧ HOk P w H' s'.heap ∧ RelV v u ∧ Q v H'
def CR (CX : CXT) (outer : List Env) (P : Program) (w : World) (H : Hp) (s : Shared) (Q : VK) (E : XK) (r : Result) (s' : Shared) : Prop :=
  match r with
  | .ok (.ret u) => CE outer P w H s Q u s'
  | .ok _ => False
  | .error e => CX outer H s E e s'
structure FnOk (P : Program) (w : World) (K : PySem.W.Frag) (mg : Str → Option Value) (base : Heap) (CX : CXT) (k : Nat) (f : Addr) (fd : FuncData) (ps : List Str) (sp : Sp) : Prop where
  len : ∀ vs H Q E, sp vs H Q E → vs.length = ps.length
  run : ∀ (A : Around) (outer : List Env) (s : Shared) (H : Hp) (args : Args) (us : List Value) (vs : List V) (Q : VK) (E : XK), Room k A → Env0 P w K mg base A outer s H → BindsTo s fd args (ps.zip us) → Vals vs us → sp vs H Q E →
    codeAny (model P w) A (.call (.ref f) args) (CR CX outer P w H s Q E) s
theorem FnOk.mono {P : Program} {w : World} {K : PySem.W.Frag} {mg : Str → Option Value} {base : Heap} {CX : CXT} {j k : Nat} {f : Addr} {fd : FuncData} {ps : List Str} {sp : Sp} (F : FnOk P w K mg base CX j f fd ps sp) (h : j ≤ k) :
    FnOk P w K mg base CX k f fd ps sp := ⟨F.len, fun A outer s H args us vs Q E hr => F.run A outer s H args us vs Q E (hr.mono h)⟩
/-- a weaker promise -/
theorem FnOk.imp {P : Program} {w : World} {K : PySem.W.Frag} {mg : Str → Option Value} {base : Heap} {CX : CXT} {k : Nat} {f : Addr} {fd : FuncData} {ps : List Str} {sp sp' : Sp} (F : FnOk P w K mg base CX k f fd ps sp)
    (h : ∀ vs H Q E, sp' vs H Q E → sp vs H Q E) : FnOk P w K mg base CX k f fd ps sp' :=
  ⟨fun vs H Q E q => F.len vs H Q E (h _ _ _ _ q), fun A outer s H args us vs Q E hr he hb hv hs => F.run A outer s H args us vs Q E hr he hb hv (h _ _ _ _ hs)⟩
theorem Env0.in1 {P : Program} {w : World} {K : PySem.W.Frag} {mg : Str → Option Value} {base : Heap} {A : Around} {outer : List Env} {s : Shared} {H : Hp} (e : Env0 P w K mg base A outer s H) :
    Env0 P w K mg base A.in1 outer s H := ⟨e.frames, e.mod, e.bs, e.bsz, e.funs, e.frf, e.hok, e.bare⟩
section
variable {X : Cx} {pins : List (Addr × Obj)} {σ : St} {H : Hp} {s s' : Shared}
/-- from a body: what a callee wants -/
theorem Inv.env0 (I : Inv X pins σ H s) : Env0 X.prog X.w X.K X.mg X.base X.A X.stack s H :=
  ⟨I.ok.frames, I.ok.mod, I.bs, Nat.le_trans I.ok.bsz I.sz, I.stack, I.stkFree, I.hok, I.bare⟩
/-- behind a call -/
theorem Inv.after {Q : VK} {u : Value} (I : Inv X pins σ H s) (h : CE X.stack X.prog X.w H s Q u s') : EP X pins σ Q u s' := by
  obtain ⟨v, H', os, bare, un, hok, r, q⟩ := h
  obtain ⟨hh, g, d, t, os'⟩ := s'
  obtain rfl : os' = s.os := os
  exact ⟨v, H', I.call (h' := hh) (g' := g) (d' := d) (t' := t) (ch := []) un hok bare (fun b z => absurd z (by simp)), r, q⟩
end
/-- f(..): the written arguments, then the defaults dvs; E: what is wanted of an exception -/
def tCall (sp : Sp) (dvs : List V) (E : XK) (t : TA) : TE := fun σ H Q => t σ H fun vs H1 => sp (vs ++ dvs) H1 Q E
/-- o.m(..) of an instance of the class at C -/
def tMeth (C : Addr) (m : Str) (sp : Sp) (dvs : List V) (E : XK) (ta : TE) (t : TA) : TE := fun σ H Q => ta σ H fun x H1 => ∃ a dx fs, x = .ref a ∧ H1 a = some (.ins C dx fs) ∧ fs.lookup m = none ∧
  t σ H1 fun vs H2 => sp (x :: (vs ++ dvs)) H2 Q E
/-- C(..): a new instance and its dict, then __init__ -/
def tMake (C : Addr) (sp : Sp) (dvs : List V) (E : XK) (t : TA) : TE := fun σ H Q => t σ H fun vs H1 => ∀ x dx, H1 x = none → H1 dx = none → dx ≠ x →
  sp (.ref x :: (vs ++ dvs)) (upd (upd H1 dx (.own x)) x (.ins C dx [])) (fun v H2 => v = .non ∧ Q (.ref x) H2) E
/-- how the parameters are bound: us the positional arguments, kw the keywords' values by name, ds the defaults that fill up -/
def Binds (K : PySem.W.Frag) (fd : FuncData) (ps : List Str) (ds : List Value) : Prop :=
  ∀ (s : Shared) (us : List Value), K.In s.heap → (us ++ ds).length = ps.length → BindsTo s fd ⟨us, []⟩ (ps.zip (us ++ ds))
/-- every parameter is given -/
theorem Binds.all {K : PySem.W.Frag} {fd : FuncData} {ps : List Str} (h : ∀ us : List Value, us.length = ps.length → bindArgs fd ⟨us, []⟩ = pure (ps.zip us)) : Binds K fd ps [] := fun s us _ hl => by
  rw [List.append_nil] at hl ⊢
  exact .of_eq (h us hl)
/-- an exception of a callee reaches what this body wants of exceptions -/
def Passes (CX : CXT) (X : Cx) (E : XK) : Prop := ∀ (pins : List (Addr × Obj)) (σ : St) (H : Hp) (s : Shared) (e : Value) (s' : Shared), Inv X pins σ H s → CX X.stack H s E e s' → X.xe e s'
section
variable {X : Cx} {CX : CXT} {k : Nat} {f C : Addr} {fd : FuncData} {ps : List Str} {sp : Sp} {dvs : List V} {ds : List Value} {E : XK} {x m : Str} {p pos apos : Pos} {e o : Expr} {es : List Expr} {ta : TE} {t : TA}
/-- the callee runs -/
theorem run_fn {pins : List (Addr × Obj)} {σ : St} {H : Hp} {s : Shared} {Q : VK} {us : List Value} {vs : List V} (F : FnOk X.prog X.w X.K X.mg X.base CX k f fd ps sp) (hr : Room k X.A) (hb : Binds X.K fd ps ds) (hd : Vals dvs ds) (hx : Passes CX X E)
    (I : Inv X pins σ H s) (r : Vals vs us) (h : sp (vs ++ dvs) H Q E) : wpAny (model X.prog X.w) X.A (call (.ref f) us) (EP X pins σ Q) X.xe s := by
  have r2 : Vals (vs ++ dvs) (us ++ ds) := r.append hd
  have hl : (us ++ ds).length = ps.length := by rw [← r2.length]; exact F.len _ _ _ _ h
  refine wpAny_call (codeAny_mono (F.run X.A X.stack s H ⟨us, []⟩ (us ++ ds) (vs ++ dvs) Q E hr I.env0 (hb s us I.kIn hl) r2 h) fun r s' hq => ?_)
  cases r with
  | error e => exact hx pins σ H s e s' I hq
  | ok fl =>
    cases fl with
    | ret u => exact I.after hq
    | next => exact False.elim hq
    | brk => exact False.elim hq
    | cont => exact False.elim hq
theorem pe_call (F : FnOk X.prog X.w X.K X.mg X.base CX k f fd ps sp) (hr : Room k X.A) (hg : Gl X x) (hm : X.mg x = some (.ref f)) (hk : PySem.W.keepIn X.K (.ref f) = true) (hb : Binds X.K fd ps ds) (hd : Vals dvs ds) (hx : Passes CX X E)
    (ha : PA X (e :: es) t) (hdb : (x == ("__debug__" : Str)) = false := by decide) (he : starEach (e :: es) X.env = (false, eval e X.env) :: starEach es X.env := by rfl) (hpl : (backTo pos (starEach es X.env)).any (·.1) = false := by rfl) :
    PE X (.Call (.Name x p) (e :: es) [] pos) (tCall sp dvs E t) := by
  intro pins s σ H Q I h
  refine wpAny_Call_Name_kw (ld_glob I hg hm ?_ hdb)
  refine PySem.W.callWith_K (h₀ := X.base) I.ok.mod.kin hk (thn (ha pos pins s σ H _ I h) fun us s1 ⟨vs, H1, I1, r, q⟩ => ⟨I1.kIn, ?_⟩) he hpl
  exact run_fn F hr hb hd hx I1 r q
/-- what a class must have to be made -/
structure Mk (K : PySem.W.Frag) (C f : Addr) : Prop where
  makes : PySem.W.makesIn K C = true
  init : PySem.W.findIn K (.ref C) "__init__" = some (some (.ref f))
  fn : PySem.W.isFn K (.ref f) = true
  kp : PySem.W.keepIn K (.ref C) = true
end
/-- the values of the keywords, from the left -/
def PK (X : Cx) (kws : List Keyword) (t : TA) : Prop :=
  ∀ (pos : Pos) (pins : List (Addr × Obj)) (s : Shared) (σ : St) (H : Hp) (Q : List V → Hp → Prop), Inv X pins σ H s → t σ H Q → wpAny (model X.prog X.w) X.A (evalAll ((backToKw pos (keywordEach kws X.env)).map (·.2))) (AP X pins σ Q) X.xe s
section
variable {X : Cx} {CX : CXT} {k : Nat} {f C : Addr} {fd : FuncData} {ps ks : List Str} {sp : Sp} {E : XK} {x m : Str} {p pos apos kpos : Pos} {e o : Expr} {es : List Expr} {kws : List Keyword} {te ta : TE} {t tk : TA} {nm : Option Str}
/-- how a call with keywords binds: g puts the positional values us and the keywords' values ws (names ks) in the parameters' order, defaults among them -/
structure KBinds (K : PySem.W.Frag) (fd : FuncData) (ps ks : List Str) (g : List Value → List Value → List Value) (gV : List V → List V → List V) : Prop where
  to : ∀ (s : Shared) (us ws : List Value), K.In s.heap → (g us ws).length = ps.length → BindsTo s fd ⟨us, ks.zip ws⟩ (ps.zip (g us ws))
  rel : ∀ {vs : List V} {us : List Value} {zs : List V} {ws : List Value}, Vals vs us → Vals zs ws → Vals (gV vs zs) (g us ws)
def tCallK (sp : Sp) (gV : List V → List V → List V) (E : XK) (t tk : TA) : TE := fun σ H Q => t σ H fun vs H1 => tk σ H1 fun zs H2 => sp (gV vs zs) H2 Q E
variable {g : List Value → List Value → List Value} {gV : List V → List V → List V}
end
/-- names: the parameters first -/
structure FnScope (N P : List Str) (sc : Scope) : Prop where
  kind : sc.kind = .function
  co : sc.isCoroutine = false
  gen : sc.isGenerator = false
  nd : N.Nodup
  pre : N.take P.length = P
  par : ∀ x ∈ P, sc.names.lookup x = some .local ∨ sc.names.lookup x = some .cell
  nofree : ∀ y ∈ sc.names, y.2 ≠ .free
theorem bindL_out {kindOf : Str → Option NameKind} {x : Str} : ∀ {binds : List (Str × Value)} {m : Str → Option Value}, (∀ v, (x, v) ∉ binds) → bindL kindOf binds m x = m x
  | [], _, _ => rfl
  | (n, v) :: r, m, h => by
    unfold bindL
    rw [bindL_out fun w hw => h w (List.mem_cons_of_mem _ hw)]
    split
    · have : x ≠ n := by rintro rfl; exact h v List.mem_cons_self
      simp [this]
    · rfl
theorem bindC_out {kindOf : Str → Option NameKind} {x : Str} : ∀ {binds : List (Str × Value)} {m : Str → Option Value}, (∀ v, (x, v) ∉ binds) → bindC kindOf binds m x = m x
  | [], _, _ => rfl
  | (n, v) :: r, m, h => by
    unfold bindC
    rw [bindC_out fun w hw => h w (List.mem_cons_of_mem _ hw)]
    split
    · rfl
    · have : x ≠ n := by rintro rfl; exact h v List.mem_cons_self
      simp [this]
theorem bindL_get {kindOf : Str → Option NameKind} {x : Str} {v : Value} : ∀ {P : List Str} {vs : List Value} {i : Nat} {m : Str → Option Value}, P.Nodup → P[i]? = some x → vs[i]? = some v → kindOf x = some .local →
    bindL kindOf (P.zip vs) m x = some v
  | [], _, _, _, _, h, _, _ => by simp at h
  | _ :: _, [], _, _, _, _, h, _ => by simp at h
  | p :: P, w :: vs, 0, m, nd, h1, h2, hk => by
    simp at h1 h2; subst h1; subst h2
    show bindL kindOf ((p, w) :: P.zip vs) m p = _
    unfold bindL
    rw [bindL_out fun v hv => (List.nodup_cons.mp nd).1 (List.of_mem_zip hv).1, if_pos hk]
    simp
  | p :: P, w :: vs, i + 1, m, nd, h1, h2, hk => by
    show bindL kindOf ((p, w) :: P.zip vs) m x = _
    unfold bindL
    exact bindL_get (i := i) (List.nodup_cons.mp nd).2 (by simpa using h1) (by simpa using h2) hk
theorem bindC_get {kindOf : Str → Option NameKind} {x : Str} {v : Value} : ∀ {P : List Str} {vs : List Value} {i : Nat} {m : Str → Option Value}, P.Nodup → P[i]? = some x → vs[i]? = some v → kindOf x ≠ some .local →
    bindC kindOf (P.zip vs) m x = some v
  | [], _, _, _, _, h, _, _ => by simp at h
  | _ :: _, [], _, _, _, _, h, _ => by simp at h
  | p :: P, w :: vs, 0, m, nd, h1, h2, hk => by
    simp at h1 h2; subst h1; subst h2
    show bindC kindOf ((p, w) :: P.zip vs) m p = _
    unfold bindC
    rw [bindC_out fun v hv => (List.nodup_cons.mp nd).1 (List.of_mem_zip hv).1, if_neg hk]
    simp
  | p :: P, w :: vs, i + 1, m, nd, h1, h2, hk => by
    show bindC kindOf ((p, w) :: P.zip vs) m x = _
    unfold bindC
    exact bindC_get (i := i) (List.nodup_cons.mp nd).2 (by simpa using h1) (by simpa using h2) hk
/-- the names' values at the entry -/
def start (N : List Str) (vs : List V) : St := vs.map some ++ List.replicate (N.length - vs.length) none
/-- the context of a def's body, at its entry; an exception leaves the frame, then lies as CX says -/
def cxOf (CX : CXT) (P : Program) (w : World) (K : PySem.W.Frag) (mg : Str → Option Value) (base : Heap) (N : List Str) (qual : Str) (scope : Scope) (f : Addr) (cd : Value) (A : Around) (outer : List Env) (s : Shared) (H : Hp) (E : XK) : Cx where
  prog := P
  w := w
  K := K
  mg := mg
  base := base
  A := A.deeper (envOfC qual scope s.heap.objs.size f cd)
  N := N
  s_0 := s
  H_0 := H
  env := envOfC qual scope s.heap.objs.size f cd
  outer := outer
  stack := envOfC qual scope s.heap.objs.size f cd :: outer
  ex := []
  calm := true
  fn := fun _ => true
  pn := []
  xe := fun e s' => wpAny (model P w) (A.deeper (envOfC qual scope s.heap.objs.size f cd)) (leaving (envOfC qual scope s.heap.objs.size f cd) e) (fun _ s'' => CX outer H s E e s'') (fun e' s'' => CX outer H s E e' s'') s'
theorem cell_has {sc : Scope} {n : Nat} {x : Str} (h : sc.names.lookup x = some .cell) : ∃ c, (cellsFrom n sc.names []).lookup x = some c := by
  have q := PySem.W.cellsFrom_some sc.names n [] (.inl h)
  exact Option.isSome_iff_exists.mp q
theorem inv_start {CX : CXT} {P : Program} {w : World} {K : PySem.W.Frag} {mg : Str → Option Value} {base : Heap} {N ps : List Str} {qual : Str} {scope : Scope} {f : Addr} {cd : Value} {A : Around} {outer : List Env} {s s1 : Shared} {H : Hp} {E : XK} {us : List Value} {vs : List V}
    (S : FnScope N ps scope) (hd : A.handled = none) (e0 : Env0 P w K mg base A outer s H) (hl : vs.length = ps.length) (r : Vals vs us)
    (x : InCallC s s.heap.objs.size (bindL (envOfC qual scope s.heap.objs.size f cd).kindOf (ps.zip us) fun _ => none) (cellsFrom (s.heap.objs.size + 1) scope.names []) (bindC (envOfC qual scope s.heap.objs.size f cd).kindOf (ps.zip us) fun _ => none) s1) :
    Inv (cxOf CX P w K mg base N qual scope f cd A outer s H E) [] (start N vs) H s1 := by
  have hpl : ps.length ≤ N.length := by have := congrArg List.length S.pre; rw [List.length_take] at this; omega
  obtain ⟨h1, tk, rfl, hk⟩ := x.done
  have noA : ∀ b : Addr, b ∉ (cxOf CX P w K mg base N qual scope f cd A outer s H E).ex := fun b z => absurd (show b ∈ ([] : List Addr) from z) (by simp)
  refine ⟨⟨e0.mod, S.kind, rfl, rfl, Nat.le_refl _, fun y z c h1 h2 => ?_, fun y hy => ?_, fun y c _ h => ?_, fun _ => hd, Around.frames_deeper e0.frames, .inr ⟨rfl, rfl⟩, fun b z => absurd z (noA b), e0.bs, e0.bsz, fun b _ _ => noA b, fun b z => absurd z (noA b), e0.funs, e0.frf⟩,
    rfl, e0.bare, Un.kept hk, ⟨_, x.toInCall.ns, fun i y v h1 h2 h3 => ?_⟩, fun y c h => ⟨_, x.cell y c h⟩, e0.hok.fresh (Nat.le_refl _), fun y c h => ?_, fun p hp => absurd (show p ∈ ([] : List (Addr × Obj)) from hp) (by simp), e0.hok.kept hk, ?_⟩
  · exact name_of_addr x.apart (PySem.mem_of_lookup h1) (PySem.mem_of_lookup h2)
  · have hy : scope.names.lookup y = some .cell ∨ scope.names.lookup y = some .free := hy
    rcases hy with hy | hy
    · exact cell_has hy
    · exact absurd rfl (S.nofree _ (PySem.mem_of_lookup hy))
  · exact Nat.le_of_lt (x.above y c (PySem.mem_of_lookup h))
  · have hi : i < vs.length := by
      unfold start at h2
      by_cases hi : i < vs.length
      · exact hi
      · rw [List.getElem?_append_right (by simpa using hi)] at h2
        rw [List.getElem?_replicate] at h2
        split at h2 <;> cases h2
    have ha : vs[i]? = some v := by
      unfold start at h2
      rw [List.getElem?_append_left (by simpa using hi), List.getElem?_map] at h2
      cases e : vs[i]? with
      | none => rw [e] at h2; cases h2
      | some a => rw [e] at h2; cases h2; rfl
    obtain ⟨u, hu, rv⟩ := r.get ha
    have hp : ps[i]? = some y := by
      rw [← S.pre, List.getElem?_take_of_lt (by omega)]; exact h1
    have ndP : ps.Nodup := by rw [← S.pre]; exact S.nd.sublist (List.take_sublist _ _)
    refine ⟨u, rv, ?_⟩
    rcases S.par y (List.mem_of_getElem? hp) with k | k
    · exact .inl ⟨k, bindL_get ndP hp hu k⟩
    · obtain ⟨c, e⟩ := cell_has (n := s.heap.objs.size + 1) k
      refine .inr ⟨.inl k, c, e, ?_⟩
      have q := x.cell y c e
      rw [bindC_get ndP hp hu (by show scope.names.lookup y ≠ _; rw [k]; decide)] at q
      exact q
  · exact e0.hok.fresh (Nat.le_of_lt (x.above y c (PySem.mem_of_lookup h)))
  · unfold start
    show _ = N.length
    rw [List.length_append, List.length_map, List.length_replicate]
    omega
/-- THE RULE: a def (or a method) of the text, by its body. The body's reading t is chosen for each entry; it is run at the parameters' values -/
theorem fn_of {CX : CXT} {P : Program} {w : World} {K : PySem.W.Frag} {mg : Str → Option Value} {base : Heap} {k : Nat} {f : Addr} {name qual : Str} {params : Arguments} {body : List Stmt} {scope : Scope} {dV kV doc pm cdv ct oc : Value} {an od : Option Addr}
    {osl : Array (Option Value)} {N ps : List Str} {sp : Sp} (lk : K.lookup f = some ⟨oc, od, .func (PySem.W.fnOf name qual params body scope dV kV doc pm an cdv ct), osl⟩) (hcd : PySem.W.codeIn K cdv qual = true) (S : FnScope N ps scope)
    (len : ∀ vs H Q E, sp vs H Q E → vs.length = ps.length)
    (hbody : ∀ (A : Around) (outer : List Env) (s : Shared) (H : Hp) (vs : List V) (Q : VK) (E : XK), Room k (A.deeper (envOfC qual scope s.heap.objs.size f cdv)) → sp vs H Q E →
      ∃ t, PSs (cxOf CX P w K mg base N qual scope f cdv A outer s H E) body t ∧ t { nx := fun _ H' => Q .non H', rt := Q } (start N vs) H) :
    FnOk P w K mg base CX (k + 1) f (PySem.W.fnOf name qual params body scope dV kV doc pm an cdv ct) ps sp := by
  refine ⟨len, fun A outer s H args us vs Q E hr e0 hb r hsp => ?_⟩
  have hl := len _ _ _ _ hsp
  have KX : K.In s.heap := e0.mod.kin.keeps fun b o e => (e0.bs b o e).1
  have lim : s.heap.NoLimit := e0.mod.nolimit.keeps fun b o e => (e0.bs b o e).1
  have hkind : ∀ y ∈ ps.zip us, scope.names.lookup y.1 = some .local ∨ (scope.names.lookup y.1 = some .cell ∧ ((cellsFrom (s.heap.objs.size + 1) scope.names []).lookup y.1).isSome = true) := fun ⟨n, v⟩ hy => by
    rcases S.par n (List.of_mem_zip hy).1 with q | q
    · exact .inl q
    · exact .inr ⟨q, PySem.W.cellsFrom_some _ _ _ (.inl q)⟩
  refine codeAny_call_function hr.depth (KX _ _ lk) rfl S.co S.gen rfl (PySem.W.codeRec_of KX hcd) (hb _ _ _ _ ?_)
  refine wpAny_newFunctionEnv_cells S.kind hkind fun env he s1 x => ?_
  subst he
  refine ⟨lim.keeps x.toInCall.keep, codeAny_func ?_⟩
  obtain ⟨t, ht, hq⟩ := hbody A outer s H vs Q E (hr.deeper _) hsp
  have I : Inv (cxOf CX P w K mg base N qual scope f cdv A outer s H E) [] (start N vs) H s1 := inv_start S hr.hd e0 hl r x
  refine wpAny_mono (ht [] s1 (start N vs) H _ I hq) (fun fl s' hs => ?_) fun e s' hs => hs
  have fin : ∀ {σ' : St} {H' : Hp} {v : V} {u : Value}, Inv (cxOf CX P w K mg base N qual scope f cdv A outer s H E) [] σ' H' s' → RelV v u → Q v H' → CE outer P w H s Q u s' :=
    fun {σ' H' v u} J rv q => ⟨v, H', J.os, J.bare, J.base, J.hok, rv, q⟩
  cases fl with
  | ret u =>
    obtain ⟨v, σ', H', J, rv, q⟩ := hs
    exact fin J rv q
  | next =>
    obtain ⟨σ', H', J, q⟩ := hs
    exact fin (v := V.non) (u := Value.none) J rfl q
  | brk =>
    obtain ⟨_, _, _, q⟩ := hs
    exact False.elim q
  | cont =>
    obtain ⟨_, _, _, q⟩ := hs
    exact False.elim q
end L2
namespace L2
open PySem PySem.Spec PyProof.Rows
section
variable {X : Cx} {x : Str} {p pos : Pos} {e : Expr} {es : List Expr} {t : TA} {id T : String} {r : List V → Hp → VK → Prop}
def tCB (r : List V → Hp → VK → Prop) (t : TA) : TE := fun σ H Q => t σ H fun vs H1 => r vs H1 Q
/-- f(e, ..), f a built-in function -/
theorem pe_callB (hc : CallR X (.builtin id) r) (hg : Gl X x) (hm : X.mg x = none) (hv : bootBuiltins x = some (.builtin id)) (ha : PA X (e :: es) t) (hn : x ≠ "__name__" := by decide) (hdb : (x == ("__debug__" : Str)) = false := by decide)
    (he : starEach (e :: es) X.env = (false, eval e X.env) :: starEach es X.env := by rfl) (hpl : (backTo pos (starEach es X.env)).any (·.1) = false := by rfl) : PE X (.Call (.Name x p) (e :: es) [] pos) (tCB r t) := by
  intro pins s σ H Q I h
  refine wpAny_Call_Name_kw (ld_blt I hg hm hv ?_ hn hdb)
  exact PyProof.Rows.callWith_builtin1 (thn (ha pos pins s σ H _ I h) fun us s1 ⟨vs, H1, I1, r1, q1⟩ => hc pins s1 σ H1 vs us Q I1 r1 q1) he hpl
/-- T(e, ..), T a built-in type -/
theorem pe_callTy (hc : CallR X (.type T) r) (hg : Gl X x) (hm : X.mg x = none) (hv : bootBuiltins x = some (.type T)) (ha : PA X (e :: es) t) (hn : x ≠ "__name__" := by decide) (hdb : (x == ("__debug__" : Str)) = false := by decide)
    (he : starEach (e :: es) X.env = (false, eval e X.env) :: starEach es X.env := by rfl) (hpl : (backTo pos (starEach es X.env)).any (·.1) = false := by rfl) : PE X (.Call (.Name x p) (e :: es) [] pos) (tCB r t) := by
  intro pins s σ H Q I h
  refine wpAny_Call_Name_kw (ld_blt I hg hm hv ?_ hn hdb)
  exact PyProof.Rows.callWith_type1 (thn (ha pos pins s σ H _ I h) fun us s1 ⟨vs, H1, I1, r1, q1⟩ => hc pins s1 σ H1 vs us Q I1 r1 q1) he hpl
end
end L2
namespace HT
open PySem PyProof.Rows
/-- t < u of tuples of ints -/
def lexLt : List Int → List Int → Bool
  | [], [] => false
  | [], _ :: _ => true
  | _ :: _, [] => false
  | x :: xs, y :: ys => if x = y then lexLt xs ys else decide (x < y)
section
open PySem.SeqAt
open PySem.AutoSeq1 (wpAny_loadPart')
open PySem.MeetsSeq PySem.MeetsSeq2 PySem.MeetsSeq3
end
section
variable {prog : Program} {w : World} {A : Around} {E : Value → Shared → Prop} {s : Shared}
/-- a slice's bound as a place among n (d where it is left out) -/
def sIx (n d : Nat) : Option Int → Nat
  | none => d
  | some v => if v < 0 then (v + (n : Int)).toNat else min v.toNat n
theorem sIx_none (n d : Nat) : sIx n d none = d := rfl
theorem sIx_nat (n d k : Nat) : sIx n d (some (k : Int)) = min k n := by
  show (if (k : Int) < 0 then ((k : Int) + (n : Int)).toNat else min (k : Int).toNat n) = min k n
  rw [if_neg (by omega), Int.toNat_natCast]
theorem sIx_le (n d : Nat) (hd : d ≤ n) (o : Option Int) : sIx n d o ≤ n := by
  cases o with
  | none => exact hd
  | some v =>
    show (if v < 0 then (v + (n : Int)).toNat else min v.toNat n) ≤ n
    by_cases hv : v < 0
    · rw [if_pos hv]; omega
    · rw [if_neg hv]; exact Nat.min_le_right _ _
end
end HT
namespace L2
open PySem PySem.Spec PyProof.Rows
abbrev TO := St → Hp → (Option Int → Hp → Prop) → Prop
/-- a slice's part (left out, or an int) -/
def PO (X : Cx) (e : Option Expr) (t : TO) : Prop :=
  ∀ (pins : List (Addr × Obj)) (s : Shared) (σ : St) (H : Hp) (Q : Option Int → Hp → Prop), Inv X pins σ H s → t σ H Q →
    wpAny (model X.prog X.w) X.A (evalPart e X.env) (fun u s' => ∃ o H', Inv X pins σ H' s' ∧ IsPart u o ∧ Q o H') X.xe s
def tNoPart : TO := fun _ H Q => Q none H
def tPart (t : TE) : TO := fun σ H Q => t σ H fun x H1 => ∃ i, x = .int i ∧ Q (some i) H1
section
variable {X : Cx} {e : Expr} {te : TE} {lo hi : Option Expr} {tl th : TO} {pos p2 : Pos}
theorem po_none : PO X none tNoPart := by
  intro pins s σ H Q I h
  rw [evalPart_none]
  exact wpAny_pure ⟨none, H, I, .none, h⟩
theorem po_some (h : PE X e te) : PO X (some e) (tPart te) := by
  intro pins s σ H Q I hw
  rw [evalPart_some]
  refine thn (h pins s σ H _ I hw) fun u s1 ⟨x, H1, I1, r1, q1⟩ => ?_
  obtain ⟨i, rfl, q⟩ := q1
  obtain ⟨t, rfl⟩ := r1
  exact ⟨some i, H1, I1, .int i t, q⟩
/-- what a slice of a value is, by values: the slice object stands at sl -/
def SlR (X : Cx) (r : V → Option Int → Option Int → Hp → VK → Prop) : Prop :=
  ∀ (pins : List (Addr × Obj)) (s : Shared) (σ : St) (H : Hp) (x : V) (v vl vu : Value) (lo hi : Option Int) (sl : Addr) (Q : VK), Inv X pins σ H s → RelV x v → s.heap.IsSliceOf sl vl vu .none → IsPart vl lo → IsPart vu hi → r x lo hi H Q →
    ∃ T id, typeLookup (.type T) "__getitem__" = pure (some (.builtin id)) ∧ s.TypeIs v T ∧ wpAny (model X.prog X.w) X.A (getItem v (.ref sl)) (EP X pins σ Q) X.xe s
theorem SlR.or {r r' : V → Option Int → Option Int → Hp → VK → Prop} (h : SlR X r) (h' : SlR X r') : SlR X (fun x lo hi H Q => r x lo hi H Q ∨ r' x lo hi H Q) := by
  intro pins s σ H x v vl vu lo hi sl Q I rx hs pl pu q
  rcases q with q | q
  · exact h pins s σ H x v vl vu lo hi sl Q I rx hs pl pu q
  · exact h' pins s σ H x v vl vu lo hi sl Q I rx hs pl pu q
def tSl (r : V → Option Int → Option Int → Hp → VK → Prop) (te : TE) (tl th : TO) : TE := fun σ H Q => te σ H fun x H1 => tl σ H1 fun l H2 => th σ H2 fun u H3 => r x l u H3 Q
/-- a[lo:hi], any a -/
theorem pe_slice {r : V → Option Int → Option Int → Hp → VK → Prop} (hr : SlR X r) (he : PE X e te) (hl : PO X lo tl) (hu : PO X hi th) : PE X (.Subscript e (.Slice lo hi none p2) pos) (tSl r te tl th) := by
  intro pins s σ H Q I h
  refine Subscript_ (thn (he pins s σ H _ I h) fun v s1 ⟨x, H1, I1, r1, q1⟩ => ?_)
  refine wpAny_Slice (thn (hl pins s1 σ H1 _ I1 q1) fun vl s2 ⟨l, H2, I2, pl, q2⟩ => thn (hu pins s2 σ H2 _ I2 q2) fun vu s3 ⟨u, H3, I3, pu, q3⟩ => ?_)
  rw [evalPart_none]
  refine wpAny_pure ?_
  have I4 : Inv X pins σ H3 { s3 with heap := s3.heap.push { cls := .type "slice", data := .fields #[vl, vu, .none] } } := I3.kept (t' := s3.toks) fun b ob q => Heap.get?_push_of_some _ q
  obtain ⟨T, id, hT, ht, hg⟩ := hr pins { s3 with heap := s3.heap.push { cls := .type "slice", data := .fields #[vl, vu, .none] } } σ H3 x v vl vu l u s3.heap.objs.size Q I4 r1 (Heap.IsSliceOf.new ..) pl pu q3
  show wpAny (model X.prog X.w) X.A (subscriptTail e (.Slice lo hi none p2) v (.ref s3.heap.objs.size)) (EP X pins σ Q) X.xe { s3 with heap := s3.heap.push { cls := .type "slice", data := .fields #[vl, vu, .none] } }
  exact tail_any (ops := [.ref s3.heap.objs.size, v]) ht hT hg (by with_unfolding_all rfl)
/-- the items of xs[lo:hi] -/
def cutV (xs : List V) (lo hi : Option Int) : List V := (xs.drop (HT.sIx xs.length 0 lo)).take (HT.sIx xs.length xs.length hi - HT.sIx xs.length 0 lo)
theorem cutV_length (xs : List V) (lo hi : Option Int) : (cutV xs lo hi).length ≤ xs.length := by
  unfold cutV
  rw [List.length_take, List.length_drop]
  omega
/-- t[lo:hi], not the whole of it (the whole would be t itself) -/
def rSlT (K : PySem.W.Frag) : V → Option Int → Option Int → Hp → VK → Prop := fun x lo hi H Q => ∃ a xs, x = .ref a ∧ SqT K H a xs ∧
  ¬ (HT.sIx xs.length 0 lo = 0 ∧ HT.sIx xs.length xs.length hi = xs.length) ∧ ∀ p, H p = none → Q (.ref p) (upd H p (.tup (cutV xs lo hi)))
def rLtT (K : PySem.W.Frag) : R2 := fun x y H Q => ∃ a b ns ms, x = .ref a ∧ y = .ref b ∧ SqT K H a (ns.map V.int) ∧ SqT K H b (ms.map V.int) ∧ Q (.bl (HT.lexLt ns ms)) H
/-- t + u, t not empty: u empty gives t itself -/
def rCatT (K : PySem.W.Frag) : R2 := fun x y H Q => ∃ a b xs ys, x = .ref a ∧ y = .ref b ∧ SqT K H a xs ∧ SqT K H b ys ∧ xs ≠ [] ∧ xs.length + ys.length ≤ sizeLine ∧
  (ys = [] → Q (.ref a) H) ∧ (ys ≠ [] → ∀ p, H p = none → Q (.ref p) (upd H p (.tup (xs ++ ys))))
end
end L2
namespace L2
open PySem PySem.Spec PyProof.Rows
/-- the place that an index of any sign means -/
def ixN (n : Nat) (i : Int) : Option Nat := if 0 ≤ i then (if i < n then some i.toNat else none) else if -(n : Int) ≤ i then some (i + n).toNat else none
def atI {α : Type} (xs : List α) (i : Int) : Option α := (ixN xs.length i).bind fun j => xs[j]?
theorem ixN_seq {n : Nat} {i : Int} {j : Nat} (h : ixN n i = some j) : seqIndex? i n = some j ∧ j < n ∧ -(n : Int) ≤ i ∧ i < n := by
  unfold ixN at h
  by_cases h0 : 0 ≤ i
  · rw [if_pos h0] at h
    by_cases h1 : i < n
    · rw [if_pos h1] at h
      have e : i.toNat = j := Option.some.inj h
      exact ⟨by rw [seqIndex_of h0 h1, e], by omega, by omega, h1⟩
    · rw [if_neg h1] at h; cases h
  · rw [if_neg h0] at h
    by_cases h1 : -(n : Int) ≤ i
    · rw [if_pos h1] at h
      have e : (i + n).toNat = j := Option.some.inj h
      exact ⟨by rw [seqIndex_neg (by omega) h1, e], by omega, h1, by omega⟩
    · rw [if_neg h1] at h; cases h
theorem atI_get {α : Type} {xs : List α} {i : Int} {v : α} (h : atI xs i = some v) : ∃ j, seqIndex? i xs.length = some j ∧ xs[j]? = some v ∧ j < xs.length ∧ -(xs.length : Int) ≤ i ∧ i < xs.length := by
  unfold atI at h
  cases e : ixN xs.length i with
  | none => rw [e] at h; cases h
  | some j =>
    rw [e] at h
    obtain ⟨h1, h2, h3, h4⟩ := ixN_seq e
    exact ⟨j, h1, h, h2, h3, h4⟩
theorem atI_nat {α : Type} {xs : List α} {j : Nat} {v : α} (h : xs[j]? = some v) : atI xs (j : Int) = some v := by
  have hj : j < xs.length := (List.getElem?_eq_some_iff.mp h).1
  have e : ixN xs.length (j : Int) = some j := by
    unfold ixN
    rw [if_pos (by omega), if_pos (by omega)]; simp
  unfold atI; rw [e]; exact h
/-- what stands as an index of a plain subscript -/
def PlainIx (b : Expr) : Prop := ∀ o i, subscripted b false o i = operate [o, i] (getItem o i)
/-- a subscript by values -/
def IxR (X : Cx) (r : R2) : Prop :=
  ∀ (value slice : Expr) (pins : List (Addr × Obj)) (s : Shared) (σ : St) (H : Hp) (x y : V) (v u : Value) (Q : VK), Inv X pins σ H s → RelV x v → RelV y u → r x y H Q →
    subscripted slice false v u = operate [v, u] (getItem v u) → wpAny (model X.prog X.w) X.A (subscriptTail value slice v u) (EP X pins σ Q) X.xe s
/-- a call of a builtin's method by values: the receiver, the arguments -/
def MtR (X : Cx) (id : String) (r : V → List V → Hp → VK → Prop) : Prop :=
  ∀ (pins : List (Addr × Obj)) (s : Shared) (σ : St) (H : Hp) (x : V) (xs : List V) (v : Value) (us : List Value) (Q : VK), Inv X pins σ H s → RelV x v → Vals xs us → r x xs H Q →
    wpAny (model X.prog X.w) X.A (call (.builtin id) (v :: us)) (EP X pins σ Q) X.xe s
section
variable {X : Cx} {a b : Expr} {ta tb : TE} {pos : Pos}
theorem IxR.or {r r' : R2} (h : IxR X r) (h' : IxR X r') : IxR X (fun x y H Q => r x y H Q ∨ r' x y H Q) := by
  intro value slice pins s σ H x y v u Q I rx ry q hs
  rcases q with q | q
  · exact h value slice pins s σ H x y v u Q I rx ry q hs
  · exact h' value slice pins s σ H x y v u Q I rx ry q hs
theorem MtR.or {id : String} {r r' : V → List V → Hp → VK → Prop} (h : MtR X id r) (h' : MtR X id r') : MtR X id (fun x xs H Q => r x xs H Q ∨ r' x xs H Q) := by
  intro pins s σ H x xs v us Q I rx rs q
  rcases q with q | q
  · exact h pins s σ H x xs v us Q I rx rs q
  · exact h' pins s σ H x xs v us Q I rx rs q
/-- a[b] -/
theorem pe_ix {r : R2} (hr : IxR X r) (ha : PE X a ta) (hb : PE X b tb) (hs : PlainIx b) : PE X (.Subscript a b pos) (tOp r ta tb) := by
  intro pins s σ H Q I h
  exact Subscript_ (binT ha hb I h fun v u s2 x y H2 I2 rx ry q => hr a b pins s2 σ H2 x y v u Q I2 rx ry q (hs _ _))
def rIxL (K : PySem.W.Frag) : R2 := fun x y H Q => ∃ p xs i v, x = .ref p ∧ y = .int i ∧ SqL K H p xs ∧ atI xs i = some v ∧ Q v H
def rIxT (K : PySem.W.Frag) : R2 := fun x y H Q => ∃ p xs i v, x = .ref p ∧ y = .int i ∧ SqT K H p xs ∧ atI xs i = some v ∧ Q v H
def rIxS : R2 := fun x y H Q => ∃ z i c, x = .str z ∧ y = .int i ∧ z.length ≤ sizeLine ∧ atI z.cps.toList i = some c ∧ Q (.str ⟨#[c]⟩) H
theorem ix_list : IxR X (rIxL X.K) := by
  intro value slice pins s σ H x y v u Q I rx ry h hs
  obtain ⟨p, xs, i, z, rfl, rfl, hq, he, q⟩ := h
  cases rx
  obtain ⟨t, rfl⟩ := ry
  obtain ⟨its, r, pl, hz⟩ := I.list hq
  obtain ⟨j, h1, h2, h3, h4, h5⟩ := atI_get he
  obtain ⟨w, ew, rw'⟩ := r.get h2
  have hl := r.length
  have hn := line63
  have fin : EP X pins σ Q w s := ⟨z, H, I, rw', q⟩
  by_cases h0 : 0 ≤ i
  · have hj : i.toNat = j := by
      rw [seqIndex_of h0 h5] at h1
      exact Option.some.inj h1
    exact item_listR pl.isList h0 (by omega) (by rw [hj]; simpa using ew) fin hs
  · have hj : (i + (its.toArray.size : Int)).toNat = j := by
      rw [seqIndex_neg (by omega) h4] at h1
      rw [List.size_toArray, ← hl]
      exact Option.some.inj h1
    exact subscriptTail_builtinR (x := w) pl.isList.typeIs slot_list_getitem.lookup
      (wpAny_getItem_list_neg (Q := fun r s' => r = w ∧ EP X pins σ Q r s') pl.isList (by omega) (by rw [List.size_toArray] <;> omega) (by omega) (by rw [hj]; simpa using ew) ⟨rfl, fin⟩) hs
theorem ix_str : IxR X rIxS := by
  intro value slice pins s σ H x y v u Q I rx ry h hs
  obtain ⟨z, i, c, rfl, rfl, hz, he, q⟩ := h
  obtain ⟨t, rfl⟩ := rx
  obtain ⟨t', rfl⟩ := ry
  obtain ⟨j, h1, h2, h3, h4, h5⟩ := atI_get he
  have hl : z.cps.toList.length = z.length := by simp [Str.length]
  rw [hl] at h1 h4 h5
  have hn := line63
  exact tail_any (typeIs_str s z t) slot_str_getitem.lookup (getItem_str (c := c) (by
    have e1 : decide (i < -(2 ^ 63 : Int)) = false := decide_eq_false (by omega)
    have e2 : decide (i ≥ 2 ^ 63) = false := decide_eq_false (by omega)
    rw [e1, e2, Bool.or_false]) (by rw [h1]; simpa using h2) ⟨.str ⟨#[c]⟩, H, I.tok _, ⟨_, rfl⟩, q⟩) hs
/-- list, tuple or str -/
def rIx (K : PySem.W.Frag) : R2 := fun x y H Q => rIxL K x y H Q ∨ rIxT K x y H Q ∨ rIxS x y H Q
/-- the list's object behind a store -/
theorem mapSeq_set (its : List Value) (n j : Nat) (u : Value) : Obj.mapSeq (·.setIfInBounds j u) { cls := .type "list", data := .seq its.toArray n } = { cls := .type "list", data := .seq (its.set j u).toArray n } := by
  simp [Obj.mapSeq]
theorem Inv.lst {pins : List (Addr × Obj)} {σ : St} {H : Hp} {s : Shared} {p : Addr} {xs : List V} (I : Inv X pins σ H s) (h : H p = some (.lst xs)) :
    ∃ (its : List Value) (n : Nat), Vals xs its ∧ s.heap.get? p = some { cls := .type "list", data := .seq its.toArray n } ∧ xs.length ≤ sizeLine := by
  obtain ⟨z, its, n, r, e⟩ := I.hok p _ h
  exact ⟨its, n, r, e, z⟩
/-- the list at p is written by an update of its object -/
theorem Inv.lstUpd {pins : List (Addr × Obj)} {σ : St} {H : Hp} {s : Shared} {p : Addr} {xs ys : List V} {its its' : List Value} {n n' : Nat} {f : Obj → Obj} (I : Inv X pins σ H s) (h : H p = some (.lst xs))
    (ho : s.heap.get? p = some { cls := .type "list", data := .seq its.toArray n }) (hf : f { cls := .type "list", data := .seq its.toArray n } = { cls := .type "list", data := .seq its'.toArray n' }) (r : Vals ys its') (hz : ys.length ≤ sizeLine) (t : Nat) :
    Inv X pins σ (upd H p (.lst ys)) { s with heap := s.heap.update p f, toks := t } := by
  have e : (s.heap.update p f).get? p = some { cls := .type "list", data := .seq its'.toArray n' } := by
    rw [Heap.get?_update_self f ho (by rw [hf] <;> rfl), hf]
  refine I.write (x := p) (e := p) (by rw [h]; trivial) (.inl rfl) (fun b u hb q => (Heap.get?_update_other _ _ (Ne.symm hb)).trans q) ⟨_, e⟩ ?_
  exact ⟨hz, its', n', r, e⟩
def rSetL : V → V → V → Hp → (Hp → Prop) → Prop := fun o i v H Q => ∃ p xs k j, o = .ref p ∧ i = .int k ∧ H p = some (.lst xs) ∧ ixN xs.length k = some j ∧ Q (upd H p (.lst (xs.set j v)))
theorem set_list : PSet X rSetL := by
  intro pins s σ H o i v ov iv u Q I ro ri rv h
  obtain ⟨p, xs, k, j, rfl, rfl, hp, hj, q⟩ := h
  cases ro
  obtain ⟨t, rfl⟩ := ri
  obtain ⟨its, n, r, ho, hz⟩ := I.lst hp
  obtain ⟨h1, h2, h3, h4⟩ := ixN_seq hj
  have hl := r.length
  have hn := line63
  have I' : Inv X pins σ (upd H p (.lst (xs.set j v))) { s with heap := s.heap.update p (Obj.mapSeq (·.setIfInBounds j u)) } :=
    I.lstUpd hp ho (mapSeq_set its n j u) (r.set rv j) (by rw [List.length_set]; exact hz) s.toks
  by_cases h0 : 0 ≤ k
  · have hk : k.toNat = j := by
      rw [seqIndex_of h0 h4] at h1
      exact Option.some.inj h1
    exact PySem.W.ki_setAt ho h0 (by omega) (by rw [List.size_toArray, ← hl]; exact h4) (by rw [hk]; exact ⟨_, I', q⟩)
  · have hk : (k + (its.toArray.size : Int)).toNat = j := by
      rw [seqIndex_neg (by omega) h3] at h1
      rw [List.size_toArray, ← hl]
      exact Option.some.inj h1
    exact PySem.W.ki_setBack ho (by omega) (by rw [List.size_toArray, ← hl]; exact h3) (by omega) (by rw [hk]; exact ⟨_, I', q⟩)
theorem slice_bounds (lo hi : Option Int) (n : Nat) : (sliceBounds lo hi none n).1 = ((HT.sIx n 0 lo : Nat) : Int) ∧ (sliceBounds lo hi none n).2.1 = ((HT.sIx n n hi : Nat) : Int) ∧ (sliceBounds lo hi none n).2.2 = 1 := by
  refine ⟨?_, ?_, rfl⟩
  · cases lo with
    | none => simp [sliceBounds, HT.sIx]
    | some i =>
      simp only [sliceBounds, HT.sIx, Option.getD_none, show (1 : Int) > 0 by decide, if_true]
      by_cases h : i < 0
      · simp only [h, if_true] <;> omega
      · simp only [h, if_false] <;> omega
  · cases hi with
    | none => simp [sliceBounds, HT.sIx]
    | some i =>
      simp only [sliceBounds, HT.sIx, Option.getD_none, show (1 : Int) > 0 by decide, if_true]
      by_cases h : i < 0
      · simp only [h, if_true] <;> omega
      · simp only [h, if_false] <;> omega
theorem slicePick_cut (its : List Value) (lo hi : Option Int) : slicePick its.toArray lo hi none = ((its.drop (HT.sIx its.length 0 lo)).take (HT.sIx its.length its.length hi - HT.sIx its.length 0 lo)).toArray := by
  obtain ⟨h1, h2, h3⟩ := slice_bounds lo hi its.toArray.size
  unfold slicePick
  rw [h1, h2, h3]
  simp only [sliceRange_one, pick_run, List.size_toArray] <;> rfl
/-- xs[lo:hi] of a list: a new list -/
def rSlL (K : PySem.W.Frag) : V → Option Int → Option Int → Hp → VK → Prop := fun x lo hi H Q => ∃ a xs, x = .ref a ∧ SqL K H a xs ∧ ∀ p, H p = none → Q (.ref p) (upd H p (.lst (cutV xs lo hi)))
theorem sl_list : SlR X (rSlL X.K) := by
  intro pins s σ H x v vl vu lo hi sl Q I rx hs pl pu h
  obtain ⟨a, xs, rfl, hx, q⟩ := h
  cases rx
  obtain ⟨its, r, ht, hz⟩ := I.list hx
  have hlen := r.length
  refine ⟨"list", _, slot_list_getitem.lookup, ht.isList.typeIs, ?_⟩
  refine wpAny_getItem_list_slice ht.isList hs pl pu .none (by simp) ?_ (by rw [List.size_toArray] <;> omega)
  rw [slicePick_cut, ← hlen]
  refine ⟨.ref s.heap.objs.size, _, I.laid (t' := s.toks) (o := .lst (cutV xs lo hi)) (fun b ob q => Heap.get?_push_of_some _ q) (Nat.le_refl _) ?_, rfl, q _ (I.hok.fresh (Nat.le_refl _))⟩
  exact ⟨Nat.le_trans (cutV_length xs lo hi) hz, _, 0, (r.drop (HT.sIx xs.length 0 lo)).take (HT.sIx xs.length xs.length hi - HT.sIx xs.length 0 lo), Heap.get?_push_size _ rfl⟩
def flatV : V → Bool
  | .non => true
  | .bl _ => true
  | .int _ => true
  | .str _ => true
  | _ => false
/-- == of flat values -/
def eqV : V → V → Bool
  | .non, .non => true
  | .bl a, .bl b => a == b
  | .bl a, .int b => (if a then 1 else 0) == b
  | .int a, .bl b => a == (if b then 1 else 0)
  | .int a, .int b => a == b
  | .str a, .str b => a == b
  | _, _ => false
/-- the items' answers, read off the values (a value's own answer does not lean on its token) -/
def eqU (x : V) (u : Value) : Bool := match u with
  | .none => eqV .non x
  | .bool b => eqV (.bl b) x
  | .int i _ => eqV (.int i) x
  | .str z _ => eqV (.str z) x
  | _ => false
def inV (x : V) (xs : List V) : Bool := xs.any fun y => eqV y x
/-- x in a list or tuple of flat items -/
def rIn (K : PySem.W.Frag) (neg : Bool) : R2 := fun x y H Q => ∃ p xs, y = .ref p ∧ (SqL K H p xs ∨ SqT K H p xs) ∧ flatV x = true ∧ xs.all flatV = true ∧ Q (.bl (if neg then !inV x xs else inV x xs)) H
theorem call_len_str : CallR X (.builtin "len") (fun xs H Q => ∃ z, xs = [.str z] ∧ z.length ≤ sizeLine ∧ Q (.int z.length) H) := by
  intro pins s σ H xs us Q I r h
  obtain ⟨z, rfl, hz, q⟩ := h
  obtain ⟨u, rfl, t, rfl⟩ := vals1 r
  have hn := line63
  exact len_str (by omega) ⟨.int z.length, H, I.tok _, ⟨_, rfl⟩, q⟩
theorem CallR.or {f : Value} {r r' : List V → Hp → VK → Prop} (h : CallR X f r) (h' : CallR X f r') : CallR X f (fun xs H Q => r xs H Q ∨ r' xs H Q) := by
  intro pins s σ H xs us Q I rs q
  rcases q with q | q
  · exact h pins s σ H xs us Q I rs q
  · exact h' pins s σ H xs us Q I rs q
/-- the value is of that builtin type -/
def tyV (K : PySem.W.Frag) (T : String) (x : V) (H : Hp) : Prop := match x with
  | .str _ => T = "str"
  | .int _ => T = "int"
  | .ref p => (T = "list" ∧ ∃ xs, SqL K H p xs) ∨ (T = "tuple" ∧ ∃ o, K.lookup p = some o ∧ o.cls = .type "tuple" ∧ o.dict = none) ∨
      (T = "dict" ∧ ((∃ kvs, H p = some (.dK kvs)) ∨ ∃ kvs, H p = some (.dT kvs))) ∨ (T = "set" ∧ ∃ S n, H p = some (.set S n))
  | _ => False
theorem tyV_is {pins : List (Addr × Obj)} {σ : St} {H : Hp} {s : Shared} {T : String} {x : V} {v : Value} (I : Inv X pins σ H s) (r : RelV x v) (ty : tyV X.K T x H) :
    s.TypeIs v T ∧ ∀ a, v = .ref a → ∃ ob, s.heap.get? a = some ob ∧ ob.dict = none := by
  cases x with
  | str z =>
    obtain ⟨t, rfl⟩ := r
    cases (show T = "str" from ty)
    exact ⟨typeIs_str s z t, fun _ e => nomatch e⟩
  | int i =>
    obtain ⟨t, rfl⟩ := r
    cases (show T = "int" from ty)
    exact ⟨typeIs_int s i t, fun _ e => nomatch e⟩
  | ref p =>
    cases r
    rcases ty with ⟨rfl, xs, hq⟩ | ⟨rfl, o, hk, hc, hd⟩ | ⟨rfl, hk⟩ | ⟨rfl, S, n, hk⟩
    · obtain ⟨its, _, pl, _⟩ := I.list hq
      refine ⟨pl.isList.typeIs, fun a e => ?_⟩
      cases e
      obtain ⟨o, n, e, c, hd, _⟩ := pl
      exact ⟨o, e, hd⟩
    · refine ⟨⟨o, I.kIn p o hk, hc⟩, fun a e => ?_⟩
      cases e
      exact ⟨o, I.kIn _ o hk, hd⟩
    · have z : ∃ o, s.heap.get? p = some o ∧ o.ExactDict := by
        rcases hk with ⟨kvs, hk⟩ | ⟨kvs, hk⟩
        · obtain ⟨_, _, _, _, o, _, _, e, ex, _⟩ := I.hok p _ hk
          exact ⟨o, e, ex⟩
        · obtain ⟨_, _, _, _, o, _, _, e, ex, _⟩ := I.hok p _ hk
          exact ⟨o, e, ex⟩
      obtain ⟨o, e, ex⟩ := z
      refine ⟨⟨o, e, ex.1⟩, fun a e2 => ?_⟩
      cases e2
      exact ⟨o, e, ex.2.1⟩
    · obtain ⟨o, _, _, _, e, ex, _⟩ := I.hok p _ hk
      refine ⟨⟨o, e, ex.1⟩, fun a e2 => ?_⟩
      cases e2
      exact ⟨o, e, ex.2.1⟩
  | _ => exact False.elim ty
def tBM0 (K : PySem.W.Frag) (T : String) (r : V → List V → Hp → VK → Prop) (to : TE) : TE := fun σ H Q => to σ H fun x H1 => tyV K T x H1 ∧ r x [] H1 Q
def tBM (K : PySem.W.Frag) (T : String) (r : V → List V → Hp → VK → Prop) (to : TE) (t : TA) : TE := fun σ H Q => to σ H fun x H1 => tyV K T x H1 ∧ t σ H1 fun xs H2 => r x xs H2 Q
variable {o e : Expr} {es : List Expr} {to : TE} {t : TA} {name : Str} {apos cpos : Pos} {T id : String} {r : V → List V → Hp → VK → Prop}
theorem pe_bm0 (pa : PlainAttrs T) (slot : Slot T name id) (hty : typeOf (.builtin id) = pure (.type "method_descriptor")) (hm : MtR X id r) (ho : PE X o to)
    (hbase : attributeBase o name X.env (eval o X.env) = eval o X.env := by rfl) (hline : (apos.endLine == cpos.line) = true := by rfl) : PE X (.Call (.Attribute o name apos) [] [] cpos) (tBM0 X.K T r to) := by
  intro pins s σ H Q I h
  refine wpAny_Call_method0_late hbase hline (thn (ho pins s σ H _ I h) fun v s1 ⟨x, H1, I1, r1, ty, q1⟩ => ?_)
  obtain ⟨h1, h2⟩ := tyV_is I1 r1 ty
  exact ⟨T, id, pa, slot, hty, h1, h2, Calls.callWith_builtin rfl (PySem.evalArgs_none (hm pins s1 σ H1 x [] v [] Q I1 r1 .nil q1))⟩
theorem pe_bm (pa : PlainAttrs T) (slot : Slot T name id) (hty : typeOf (.builtin id) = pure (.type "method_descriptor")) (hm : MtR X id r) (ho : PE X o to) (ha : PA X (e :: es) t)
    (hbase : attributeBase o name X.env (eval o X.env) = eval o X.env := by rfl)
    (hfew : ((backTo cpos (starEach (e :: es) X.env)).all (fun x => !x.1) && (backToKw cpos (keywordEach [] X.env)).all (fun x => x.1.isSome)
      && decide ((e :: es).length + ([] : List Keyword).length + (if ([] : List Keyword).isEmpty then 0 else 1) < 30)) = true := by rfl)
    (hline : (apos.endLine == cpos.line) = true := by rfl) (hs : starEach (e :: es) X.env = (false, eval e X.env) :: starEach es X.env := by rfl) (hplain : (backTo cpos (starEach es X.env)).any (·.1) = false := by rfl) :
    PE X (.Call (.Attribute o name apos) (e :: es) [] cpos) (tBM X.K T r to t) := by
  intro pins s σ H Q I h
  refine wpAny_Call_method_late hbase hfew hline rfl (thn (ho pins s σ H _ I h) fun v s1 ⟨x, H1, I1, r1, ty, q1⟩ => ?_)
  obtain ⟨h1, h2⟩ := tyV_is I1 r1 ty
  refine ⟨T, id, pa, slot, hty, h1, h2, ?_⟩
  have hA := ha cpos pins s1 σ H1 _ I1 q1
  rw [hs] at hA ⊢
  refine Calls.callWith_builtin (by show (false || (backTo cpos (starEach es X.env)).any (·.1)) = false; rw [hplain] <;> rfl) (Calls.evalArgs_plain ?_)
  exact thn hA fun us s2 ⟨vs, H2, I2, r2, q2⟩ => hm pins s2 σ H2 x vs v us Q I2 r1 r2 q2
/- xs.append(e), list.index on a module's tuple .. are MtR facts of 06m -/
end
end L2
namespace L2
open PySem PySem.Spec PyProof.Rows
def MtM (X : Cx) (id : String) (r : V → List V → Hp → VK → Prop) : Prop :=
  ∀ (pins : List (Addr × Obj)) (s : Shared) (σ : St) (H : Hp) (x : V) (xs : List V) (v : Value) (us : List Value) (Q : VK), Inv X pins σ H s → RelV x v → Vals xs us → r x xs H Q →
    wpAny (model X.prog X.w) X.A (call (.builtin id) (v :: us)) (EP X pins σ Q) X.xe s
theorem Vals.one : ∀ {x : V} {us : List Value}, Vals [x] us → ∃ u, us = [u] ∧ RelV x u
  | _, _, .cons r .nil => ⟨_, rfl, r⟩
theorem Vals.two : ∀ {x y : V} {us : List Value}, Vals [x, y] us → ∃ u v, us = [u, v] ∧ RelV x u ∧ RelV y v
  | _, _, _, .cons r (.cons q .nil) => ⟨_, _, rfl, r, q⟩
theorem Vals.zero : ∀ {us : List Value}, Vals [] us → us = []
  | _, .nil => rfl
theorem Vals.dropLast {xs : List V} {us : List Value} (h : Vals xs us) : Vals xs.dropLast us.dropLast := by
  induction h with
  | nil => exact .nil
  | cons r t ih =>
    cases t with
    | nil => exact .nil
    | cons q t' => exact .cons r ih
theorem Vals.eraseIdx : ∀ {xs : List V} {us : List Value} (i : Nat), Vals xs us → Vals (xs.eraseIdx i) (us.eraseIdx i)
  | _, _, _, .nil => .nil
  | _, _, 0, .cons _ t => t
  | _, _, i + 1, .cons r t => .cons r (Vals.eraseIdx i t)
theorem Vals.reverse {xs : List V} {us : List Value} (h : Vals xs us) : Vals xs.reverse us.reverse := by
  induction h with
  | nil => exact .nil
  | cons r t ih => rw [List.reverse_cons, List.reverse_cons]; exact Vals.append ih (.cons r .nil)
theorem Vals.rep {xs : List V} {us : List Value} (h : Vals xs us) : ∀ k : Nat, Vals (List.replicate k xs).flatten (List.replicate k us).flatten
  | 0 => .nil
  | k + 1 => by
    rw [List.replicate_succ, List.replicate_succ, List.flatten_cons, List.flatten_cons]
    exact Vals.append h (Vals.rep h k)
theorem foldl_rep (its : List Value) : ∀ (k : Nat) (acc : List Value),
    List.foldl (fun x1 x2 => x1 ++ x2) acc.toArray (List.replicate k its.toArray) = (acc ++ (List.replicate k its).flatten).toArray
  | 0, acc => by simp
  | k + 1, acc => by
    have e : acc.toArray ++ its.toArray = (acc ++ its).toArray := by simp
    have e2 : (acc ++ its) ++ (List.replicate k its).flatten = acc ++ (List.replicate (k + 1) its).flatten := by
      rw [List.replicate_succ, List.flatten_cons, List.append_assoc]
    rw [← e2, ← foldl_rep its k (acc ++ its), ← e, List.replicate_succ, List.foldl_cons]
section
variable {X : Cx} {pins : List (Addr × Obj)} {σ : St} {H : Hp} {s : Shared} {l b : Addr} {xs ys zs : List V}
theorem Inv.lset {its its' : List Value} {n : Nat} {f : Array Value → Array Value} {t' : Nat} (I : Inv X pins σ H s) (hH : H l = some (.lst xs))
    (e : s.heap.get? l = some { cls := .type "list", data := .seq its.toArray n }) (hf : f its.toArray = its'.toArray) (hv : Vals ys its') (hz : ys.length ≤ sizeLine) :
    Inv X pins σ (upd H l (.lst ys)) { s with heap := s.heap.update l (Obj.mapSeq f), toks := t' } := by
  have q := PySem.IsL.update e f
  rw [hf] at q
  refine I.write (x := l) (e := l) (by rw [hH]; exact trivial) (.inl rfl) (fun b' u hb hu => (Heap.get?_update_other s.heap (Obj.mapSeq f) (Ne.symm hb)).trans hu) ⟨_, q⟩ ?_
  exact ⟨hz, its', _, hv, q⟩
theorem Inv.lnew {its : List Value} {t' : Nat} (I : Inv X pins σ H s) (hv : Vals ys its) (hz : ys.length ≤ sizeLine) :
    Inv X pins σ (upd H s.heap.objs.size (.lst ys)) { s with heap := s.heap.push { cls := .type "list", data := .seq its.toArray }, toks := t' } :=
  I.laid (fun _ _ q => Heap.get?_push_of_some _ q) (Nat.le_refl _) ⟨hz, its, 0, hv, Heap.get?_push_size _ rfl⟩
theorem Inv.fresh (I : Inv X pins σ H s) : H s.heap.objs.size = none := I.hok.fresh (Nat.le_refl _)
theorem Inv.lstM (I : Inv X pins σ H s) (hH : H l = some (.lst xs)) : xs.length ≤ sizeLine ∧ ∃ (its : List Value) (n : Nat), Vals xs its ∧ xs.length = its.length ∧ s.heap.get? l = some { cls := .type "list", data := .seq its.toArray n } := by
  obtain ⟨z, its, n, r, e⟩ := I.hok l _ hH
  exact ⟨z, its, n, r, r.length, e⟩
theorem notLongL {n : Nat} (h : n ≤ sizeLine) : Builtin.List.listTooLong n = false := by
  unfold Builtin.List.listTooLong
  exact decide_eq_false (by omega)
end
section
variable {X : Cx}
def rAppend : V → List V → Hp → VK → Prop := fun x vs H Q => ∃ l xs y, x = .ref l ∧ vs = [y] ∧ H l = some (.lst xs) ∧ xs.length < sizeLine ∧ Q .non (upd H l (.lst (xs ++ [y])))
theorem mt_append : MtM X "list.append" rAppend := by
  intro pins s σ H x vs v us Q I rx rv h
  obtain ⟨l, xs, y, rfl, rfl, hH, hz, q⟩ := h
  cases rx
  obtain ⟨u, rfl, ru⟩ := rv.one
  obtain ⟨z, its, n, r, hl, e⟩ := I.lstM hH
  refine call_meets F.slot_list_append ⟨_, e, rfl⟩ F.entry_list_append (F.args_list_append_2 _ _) (PySem.list_append l its.toArray n u (by rw [List.size_toArray]; omega)) ⟨e, ?_⟩
  refine ⟨.non, _, I.lset (its' := its ++ [u]) hH e (by simp) (r.append (.cons ru .nil)) ?_, rfl, q⟩
  rw [List.length_append, List.length_singleton]
  omega
def rExtend : V → List V → Hp → VK → Prop := fun x vs H Q => ∃ l b xs zs, x = .ref l ∧ vs = [.ref b] ∧ H l = some (.lst xs) ∧ H b = some (.lst zs) ∧ xs.length + zs.length ≤ sizeLine ∧ Q .non (upd H l (.lst (xs ++ zs)))
def rPop : V → List V → Hp → VK → Prop := fun x vs H Q => ∃ l xs y, x = .ref l ∧ vs = [] ∧ H l = some (.lst xs) ∧ xs[xs.length - 1]? = some y ∧ Q y (upd H l (.lst xs.dropLast))
def rPopAt : V → List V → Hp → VK → Prop := fun x vs H Q => ∃ l xs i k y, x = .ref l ∧ vs = [.int i] ∧ H l = some (.lst xs) ∧ -(2 ^ 63) ≤ i ∧ i < 2 ^ 63 ∧ seqIndex? i xs.length = some k ∧ xs[k]? = some y ∧ Q y (upd H l (.lst (xs.eraseIdx k)))
def rReverse : V → List V → Hp → VK → Prop := fun x vs H Q => ∃ l xs, x = .ref l ∧ vs = [] ∧ H l = some (.lst xs) ∧ Q .non (upd H l (.lst xs.reverse))
theorem mt_reverse : MtM X "list.reverse" rReverse := by
  intro pins s σ H x vs v us Q I rx rv h
  obtain ⟨l, xs, rfl, rfl, hH, q⟩ := h
  cases rx
  have hus := rv.zero
  subst hus
  obtain ⟨z, its, n, r, hl, e⟩ := I.lstM hH
  refine call_meets F.slot_list_reverse ⟨_, e, rfl⟩ F.entry_list_reverse (F.args_list_reverse_1 _) (AutoSeq1.list_reverse_list_0 l its.toArray n (by rw [List.size_toArray]; omega)) ⟨e, ?_⟩
  refine ⟨.non, _, I.lset (its' := its.reverse) hH e (by simp) r.reverse ?_, rfl, q⟩
  rw [List.length_reverse]
  omega
def rClear : V → List V → Hp → VK → Prop := fun x vs H Q => ∃ l xs, x = .ref l ∧ vs = [] ∧ H l = some (.lst xs) ∧ Q .non (upd H l (.lst []))
def rCat : R2 := fun x y H Q => ∃ l b xs zs, x = .ref l ∧ y = .ref b ∧ H l = some (.lst xs) ∧ H b = some (.lst zs) ∧ xs.length + zs.length ≤ sizeLine ∧ ∀ p, H p = none → Q (.ref p) (upd H p (.lst (xs ++ zs)))
theorem op_cat : OpR X (binaryOp .Add) rCat := by
  intro pins s σ H x y v u Q I rx ry h
  obtain ⟨l, b, xs, zs, rfl, rfl, hH, hB, hz, q⟩ := h
  cases rx
  cases ry
  obtain ⟨z, its, n, r, hl, e⟩ := I.lstM hH
  obtain ⟨z2, its2, n2, r2, hl2, e2⟩ := I.lstM hB
  refine PySem.P.add_list e e2 ?_ (by rw [List.size_toArray, List.size_toArray]; omega)
  have ea : its.toArray ++ its2.toArray = (its ++ its2).toArray := by simp
  rw [ea]
  exact ⟨.ref _, _, I.lnew (t' := s.toks) (r.append r2) (by rw [List.length_append]; omega), rfl, q _ I.fresh⟩
/-- a list times an int (a negative one is nothing) -/
def rRep : R2 := fun x y H Q => ∃ l k xs, x = .ref l ∧ y = .int k ∧ H l = some (.lst xs) ∧ -(2 ^ 63) ≤ k ∧ k < 2 ^ 63 ∧ xs.length * k.toNat ≤ sizeLine ∧
  ∀ p, H p = none → Q (.ref p) (upd H p (.lst (List.replicate k.toNat xs).flatten))
theorem len_rep {α : Type} (xs : List α) (k : Nat) : (List.replicate k xs).flatten.length = k * xs.length := by
  induction k with
  | zero => simp
  | succ k ih => rw [List.replicate_succ, List.flatten_cons, List.length_append, ih, Nat.succ_mul, Nat.add_comm]
theorem op_rep : OpR X (binaryOp .Mult) rRep := by
  intro pins s σ H x y v u Q I rx ry h
  obtain ⟨l, k, xs, rfl, rfl, hH, h1, h2, hz, q⟩ := h
  cases rx
  obtain ⟨t, rfl⟩ := ry
  obtain ⟨z, its, n, r, hl, e⟩ := I.lstM hH
  have hlen : its.toArray.size * k.toNat ≤ sizeLine := by rw [List.size_toArray, ← hl]; exact hz
  have hcap : ¬ its.toArray.size * k.toNat > (2 ^ 63 - 1) / 8 := by
    have : (sizeLine : Nat) ≤ (2 ^ 63 - 1) / 8 := by decide
    omega
  have hfit : ¬ (!Builtin.List.listFitsIndex k) = true := by
    rw [fitsIndex_both h1 h2]
    exact Bool.false_ne_true
  have hlong : ¬ Builtin.List.listTooLong (its.toArray.size * k.toNat) = true := by
    rw [notLongL hlen]
    exact Bool.false_ne_true
  have hnew : List.foldl (fun x1 x2 => x1 ++ x2) #[] (List.replicate (if its.toArray.isEmpty = true then 0 else k.toNat) its.toArray) = (List.replicate k.toNat its).flatten.toArray := by
    have f0 : ∀ m : Nat, List.foldl (fun x1 x2 => x1 ++ x2) #[] (List.replicate m its.toArray) = (List.replicate m its).flatten.toArray := fun m => by
      have := foldl_rep its m []
      rw [List.nil_append] at this
      exact this
    rw [f0]
    cases its with
    | nil => simp
    | cons a r' => rw [if_neg (by simp)]
  refine wpAny_binaryOp_repeat_ref (T := "list") (U := "int") (by decide) ⟨_, e, rfl⟩ (fun s' => typeIs_int s' k t) noFill_list_mul F.fills_int_mul F.slot_int_rmul repeat_list F.slot_int_index.lookup
    (call_meets F.slot_int_rmul (typeIs_int s k t) F.entry_int_rmul (F.args_int_rmul_2 _ _) (int___rmul___int_list k t l its.toArray n)
      ⟨e, rfl, ⟨_, e, rfl⟩, call_meets F.slot_list_mul ⟨_, e, rfl⟩ F.entry_list_mul (F.args_list_mul_2 _ _) (AutoListH.list___mul___list_int_3 l its.toArray n k t hfit hcap hlong) ⟨e, ?_⟩⟩)
  rw [hnew]
  exact ⟨.ref _, _, I.lnew (t' := s.toks) (r.rep k.toNat) (by rw [len_rep, Nat.mul_comm]; exact hz), rfl, q _ I.fresh⟩
end
section
variable {prog : Program} {w : World} {A : Around} {E : Value → Shared → Prop} {s : Shared}
end
section
variable {X : Cx}
end
end L2
namespace L2
open PySem PySem.Spec PyProof.Rows
theorem Vals.ints : ∀ {ns : List Int} {us : List Value}, Vals (ns.map V.int) us → IntsAre us ns
  | [], us, h => by
    rw [List.map_nil] at h
    cases h
    exact IntsAre.nil
  | n :: ns, us, h => by
    rw [List.map_cons] at h
    cases h with
    | cons r t =>
      obtain ⟨k, rfl⟩ := r
      exact IntsAre.cons n k (Vals.ints t)
theorem vals_of_ints : ∀ {us : List Value} {ns : List Int}, IntsAre us ns → Vals (ns.map V.int) us
  | _, _, .nil => by rw [List.map_nil]; exact Paired.nil
  | _, _, .cons n t h => by rw [List.map_cons]; exact Paired.cons (show RelV (V.int n) (Value.int n t) from ⟨t, rfl⟩) (vals_of_ints h)
theorem Vals.strs : ∀ {xs : List Str} {us : List Value}, Vals (xs.map V.str) us → StrsAre us xs
  | [], us, h => by
    rw [List.map_nil] at h
    cases h
    exact StrsAre.nil
  | x :: xs, us, h => by
    rw [List.map_cons] at h
    cases h with
    | cons r t =>
      obtain ⟨k, rfl⟩ := r
      exact StrsAre.cons x k (Vals.strs t)
theorem Vals.ref1 {a : Addr} {us : List Value} (r : Vals [V.ref a] us) : us = [Value.ref a] := by
  cases r with
  | cons r t =>
    cases t
    cases r
    rfl
section
variable {prog : Program} {w : World} {A : Around} {E : Value → Shared → Prop} {s : Shared} {l : Addr} {its : List Value} {ns : List Int} {Q : Value → Shared → Prop}
theorem sum_raw (hh : A.handled = none) (hl : s.heap.IsList l its.toArray) (hi : IntsAre its ns)
    (h : ∀ h' tk t', (∀ b o, s.heap.get? b = some o → h'.get? b = some o) → Q (.int ns.sum t') { s with heap := h', toks := tk }) : wpAny (model prog w) A (call (.builtin "sum") [.ref l]) Q E s := by
  obtain ⟨xs, e⟩ := hi.allInts.items
  have hn : numsOf (intItems xs).toList = ns := by rw [← e]; exact hi.numsOf
  rw [nums_intItems] at hn
  rw [e] at hl
  refine PySem.sum_intListG hh hl fun h' tk t' hk => ?_
  have := h h' tk t' hk
  rw [preSum_eq, List.take_of_length_le (by simp), hn]; exact this
end
section
variable {X : Cx}
/-- sum(xs) of a list of ints -/
def rSum (K : PySem.W.Frag) : List V → Hp → VK → Prop := fun vs H Q => ∃ (a : Addr) (ns : List Int), vs = [V.ref a] ∧ SqL K H a (ns.map V.int) ∧ Q (.int ns.sum) H
/-- max(xs), min(xs) of a list of ints -/
def rMax (K : PySem.W.Frag) : List V → Hp → VK → Prop := fun vs H Q => ∃ (a : Addr) (ns : List Int), vs = [V.ref a] ∧ SqL K H a (ns.map V.int) ∧ 0 < ns.length ∧ ∀ m, m ∈ ns → (∀ y, y ∈ ns → y ≤ m) → Q (.int m) H
def rMin (K : PySem.W.Frag) : List V → Hp → VK → Prop := fun vs H Q => ∃ (a : Addr) (ns : List Int), vs = [V.ref a] ∧ SqL K H a (ns.map V.int) ∧ 0 < ns.length ∧ ∀ m, m ∈ ns → (∀ y, y ∈ ns → m ≤ y) → Q (.int m) H
theorem cr_sum (hc : X.calm = true) : CallR X (.builtin "sum") (rSum X.K) := by
  intro pins s σ H vs us Q I r h
  obtain ⟨a, ns, rfl, hs, q⟩ := h
  obtain ⟨its, rv, hl, _⟩ := I.list hs
  rw [Vals.ref1 r]
  exact sum_raw (I.ok.hd hc) hl.isList rv.ints fun h' tk t' hk => ⟨.int _, H, I.kept hk, ⟨_, rfl⟩, q⟩
def rSorted (K : PySem.W.Frag) : List V → Hp → VK → Prop := fun vs H Q => ∃ (a : Addr) (ns : List Int), vs = [V.ref a] ∧ SqL K H a (ns.map V.int) ∧ ns.length < 64 ∧
  ∀ (ns' : List Int) (p : Addr), ns'.Perm ns → ns'.Pairwise (· ≤ ·) → H p = none → Q (.ref p) (upd H p (.lst (ns'.map V.int)))
def rSortedS (K : PySem.W.Frag) : List V → Hp → VK → Prop := fun vs H Q => ∃ (a : Addr) (xs : List Str), vs = [V.ref a] ∧ SqL K H a (xs.map V.str) ∧ xs.length < 64 ∧
  ∀ (ys : List Str) (p : Addr), ys.Perm xs → sortedS ys = true → H p = none → Q (.ref p) (upd H p (.lst (ys.map V.str)))
/-- xs.sort(), ints -/
def rSort : V → List V → Hp → VK → Prop := fun x xs H Q => ∃ (a : Addr) (ns : List Int), x = V.ref a ∧ xs = [] ∧ H a = some (.lst (ns.map V.int)) ∧ ns.length < 64 ∧
  ∀ ns' : List Int, ns'.Perm ns → ns'.Pairwise (· ≤ ·) → Q .non (upd H a (.lst (ns'.map V.int)))
end
section
variable {X : Cx}
def rIndex (K : PySem.W.Frag) : V → List V → Hp → VK → Prop := fun x xs H Q => ∃ (a : Addr) (ys : List V) (y : V) (j : Nat) (z : V), x = V.ref a ∧ xs = [y] ∧ SqL K H a ys ∧ flatV y = true ∧ ys.all flatV = true ∧ ys[j]? = some z ∧ eqV z y = true ∧
  (∀ (m : Nat) (z' : V), m < j → ys[m]? = some z' → eqV z' y = false) ∧ Q (.int (j : Nat)) H
end
section
variable {X : Cx}
end
section
variable {X : Cx}
def rAny (K : PySem.W.Frag) : List V → Hp → VK → Prop := fun vs H Q => ∃ (a : Addr) (bs : List Bool), vs = [V.ref a] ∧ SqL K H a (bs.map V.bl) ∧ Q (.bl (bs.any id)) H
def rAll (K : PySem.W.Frag) : List V → Hp → VK → Prop := fun vs H Q => ∃ (a : Addr) (bs : List Bool), vs = [V.ref a] ∧ SqL K H a (bs.map V.bl) ∧ Q (.bl (bs.all id)) H
end
mutual
inductive Dp (K : PySem.W.Frag) (H : Hp) : V → PyData → Prop
  | non : Dp K H .non .none
  | bl (b : Bool) : Dp K H (.bl b) (.bool b)
  | int (i : Int) : Dp K H (.int i) (.int i)
  | str (x : Str) : Dp K H (.str x) (.str x)
  | lst {a : Addr} {xs : List V} {ds : List PyData} : SqL K H a xs → DpAll K H xs ds → Dp K H (.ref a) (.list ds)
  | tup {a : Addr} {xs : List V} {ds : List PyData} : SqT K H a xs → DpAll K H xs ds → Dp K H (.ref a) (.tuple ds)
inductive DpAll (K : PySem.W.Frag) (H : Hp) : List V → List PyData → Prop
  | nil : DpAll K H [] []
  | cons {v : V} {vs : List V} {d : PyData} {ds : List PyData} : Dp K H v d → DpAll K H vs ds → DpAll K H (v :: vs) (d :: ds)
end
section
variable {X : Cx} {pins : List (Addr × Obj)} {σ : St} {H : Hp} {s : Shared}
mutual
theorem Dp.reads (I : Inv X pins σ H s) : ∀ (d : PyData) (v : V) (u : Value), Dp X.K H v d → RelV v u → ∃ as, Reads s.heap u d as
  | .none, _, _, h, r => by
    cases h
    cases r
    exact ⟨_, Reads.none⟩
  | .bool b, _, _, h, r => by
    cases h
    cases r
    exact ⟨_, Reads.bool b⟩
  | .int i, _, _, h, r => by
    cases h
    obtain ⟨t, rfl⟩ := r
    exact ⟨_, Reads.int i t⟩
  | .str x, _, _, h, r => by
    cases h
    obtain ⟨t, rfl⟩ := r
    exact ⟨_, Reads.str x t⟩
  | .list ds, _, _, h, r => by
    cases h with
    | lst hs ha =>
      cases r
      obtain ⟨its, rv, ⟨o, n, ho, hc, _, hd⟩, _⟩ := I.list hs
      obtain ⟨as, hr⟩ := Dp.readsAll I ds _ its ha rv
      exact ⟨_, Reads.list ho hc hd hr⟩
  | .tuple ds, _, _, h, r => by
    cases h with
    | tup hs ha =>
      cases r
      obtain ⟨its, rv, ⟨o, ho, hc, n, hd⟩, _⟩ := I.tuple hs
      obtain ⟨as, hr⟩ := Dp.readsAll I ds _ its ha rv
      exact ⟨_, Reads.tuple ho hc hd hr⟩
  | .dict _, _, _, h, _ => by cases h
theorem Dp.readsAll (I : Inv X pins σ H s) : ∀ (ds : List PyData) (vs : List V) (us : List Value), DpAll X.K H vs ds → Vals vs us → ∃ as, ReadsAll s.heap us ds as
  | [], _, _, h, r => by
    cases h
    cases r
    exact ⟨_, ReadsAll.nil⟩
  | d :: ds, _, _, h, r => by
    cases h with
    | cons h1 h2 =>
      cases r with
      | cons r1 r2 =>
        obtain ⟨as, q1⟩ := Dp.reads I d _ _ h1 r1
        obtain ⟨bs, q2⟩ := Dp.readsAll I ds _ _ h2 r2
        exact ⟨_, ReadsAll.cons q1 q2⟩
end
end
section
variable {X : Cx}
def rEqD (K : PySem.W.Frag) : R2 := fun x y H Q => ∃ d e, Dp K H x d ∧ Dp K H y e ∧ SeqAt.shaped d = true ∧ SeqAt.shaped e = true ∧ Q (.bl (PyData.eqv d e)) H
def rNeD (K : PySem.W.Frag) : R2 := fun x y H Q => ∃ d e, Dp K H x d ∧ Dp K H y e ∧ SeqAt.shaped d = true ∧ SeqAt.shaped e = true ∧ Q (.bl (!PyData.eqv d e)) H
theorem op_eqD (hu : X.A.units + 64 < cLine) : OpR X (compareOp .Eq) (rEqD X.K) := by
  intro pins s σ H x y v u Q I rx ry h
  obtain ⟨d, e, hd, he, sd, se, q⟩ := h
  obtain ⟨as, r1⟩ := Dp.reads I d x v hd rx
  obtain ⟨bs, r2⟩ := Dp.reads I e y u he ry
  exact SeqAt.compareEq_shaped r1 r2 sd se hu ⟨.bl _, H, I, rfl, q⟩
theorem op_neD (hu : X.A.units + 64 < cLine) : OpR X (compareOp .NotEq) (rNeD X.K) := by
  intro pins s σ H x y v u Q I rx ry h
  obtain ⟨d, e, hd, he, sd, se, q⟩ := h
  obtain ⟨as, r1⟩ := Dp.reads I d x v hd rx
  obtain ⟨bs, r2⟩ := Dp.reads I e y u he ry
  exact SeqAt.compareNe_shaped r1 r2 sd se hu ⟨.bl _, H, I, rfl, q⟩
end
end L2
namespace L2
open PySem PySem.Spec PyProof.Rows
abbrev CellAt (h : Heap) (c : Addr) (v : Option Value) : Prop := h.IsCell c v
def relS (scope sc : Scope) : Scope :=
  { scope with names := scope.names.map fun (n, k) => if (k == .free && sc.kind == .function && sc.names.lookup n == some .cell) then (n, .cell) else (n, k) }
def cloFrom (cells : List (Str × Addr)) : List (Str × NameKind) → List (Str × Addr) → List (Str × Addr)
  | [], acc => acc
  | (n, k) :: r, acc => if k == .free then cloFrom cells r ((n, (cells.lookup n).getD 0) :: acc) else cloFrom cells r acc
theorem closure_loop (env : Env) (f : Str × NameKind → List (Str × Addr) → Sem (ForInStep (List (Str × Addr))))
    (hf : ∀ n k c, f (n, k) c = if k == .free then (do let a ← cellOf env n; pure (.yield ((n, a) :: c))) else pure (.yield c)) :
    ∀ (names : List (Str × NameKind)) (acc : List (Str × Addr)), (∀ y ∈ names, y.2 = .free → ∃ c, env.cells.lookup y.1 = some c) → forIn names acc f = pure (cloFrom env.cells names acc)
  | [], acc, _ => by rw [List.forIn_nil]; rfl
  | (n, k) :: r, acc, h => by
    rw [List.forIn_cons, hf]
    have ih := fun acc => closure_loop env f hf r acc fun y hy => h y (List.mem_cons_of_mem _ hy)
    unfold cloFrom
    by_cases hk : (k == NameKind.free) = true
    · rw [if_pos hk, if_pos hk]
      obtain ⟨c, hc⟩ := h (n, k) List.mem_cons_self (by simpa using hk)
      have e : cellOf env n = pure c := by unfold cellOf; rw [hc]
      rw [e]
      have e2 : (env.cells.lookup n).getD 0 = c := by rw [hc]; rfl
      rw [e2]
      exact ih _
    · rw [if_neg hk, if_neg hk]
      exact ih _
theorem closure_ok {scope : Scope} {env : Env} (h : ∀ y ∈ scope.names, y.2 = .free → ∃ c, env.cells.lookup y.1 = some c) : closureFor scope env = pure (cloFrom env.cells scope.names []) := by
  simp only [closureFor]
  rw [closure_loop env _ (fun n k c => rfl) scope.names [] h]
  rfl
theorem mem_lookup {α : Type} : ∀ {l : List (Str × α)} {n : Str} {c : α}, (n, c) ∈ l → ∃ c', l.lookup n = some c'
  | (k, v) :: r, n, c, h => by
    rw [List.lookup_cons]
    cases hb : n == k with
    | true => exact ⟨_, rfl⟩
    | false =>
      rcases List.mem_cons.mp h with e | h
      · cases e; simp at hb
      · exact mem_lookup h
theorem cloFrom_mem {cells : List (Str × Addr)} : ∀ {names : List (Str × NameKind)} {acc : List (Str × Addr)} {n : Str} {c : Addr}, (n, c) ∈ cloFrom cells names acc → (n, c) ∈ acc ∨ ((n, .free) ∈ names ∧ c = (cells.lookup n).getD 0)
  | [], _, _, _, h => .inl h
  | (m, k) :: r, acc, n, c, h => by
    unfold cloFrom at h
    split at h
    · rename_i hk
      have hk : k = .free := by simpa using hk
      rcases cloFrom_mem h with h | ⟨h1, h2⟩
      · rcases List.mem_cons.mp h with e | h
        · cases e; exact .inr ⟨hk ▸ List.mem_cons_self, rfl⟩
        · exact .inl h
      · exact .inr ⟨List.mem_cons_of_mem _ h1, h2⟩
    · rcases cloFrom_mem h with h | ⟨h1, h2⟩
      · exact .inl h
      · exact .inr ⟨List.mem_cons_of_mem _ h1, h2⟩
theorem cloFrom_acc {cells : List (Str × Addr)} : ∀ {names : List (Str × NameKind)} {acc : List (Str × Addr)} {p : Str × Addr}, p ∈ acc → p ∈ cloFrom cells names acc
  | [], _, _, h => h
  | (m, k) :: r, acc, p, h => by
    unfold cloFrom
    split
    · exact cloFrom_acc (List.mem_cons_of_mem _ h)
    · exact cloFrom_acc h
theorem cloFrom_has {cells : List (Str × Addr)} : ∀ {names : List (Str × NameKind)} {acc : List (Str × Addr)} {n : Str}, (n, .free) ∈ names → (n, (cells.lookup n).getD 0) ∈ cloFrom cells names acc
  | (m, k) :: r, acc, n, h => by
    unfold cloFrom
    rcases List.mem_cons.mp h with e | h
    · cases e
      exact cloFrom_acc List.mem_cons_self
    · split
      · exact cloFrom_has h
      · exact cloFrom_has h
theorem cells_mem : ∀ {names : List (Str × NameKind)} {h : Heap} {acc : List (Str × Addr)} {x : Str} {c : Addr}, (x, c) ∈ cellsFrom h.objs.size names acc →
    (x, c) ∈ acc ∨ ((x, .cell) ∈ names ∧ h.objs.size ≤ c ∧ CellAt (pushCells h names) c none)
  | [], _, _, _, _, h => .inl h
  | (n, k) :: r, h, acc, x, c, hm => by
    unfold cellsFrom at hm
    unfold pushCells
    split at hm
    · rename_i hk
      rw [if_pos hk]
      have hk : k = .cell := by simpa using hk
      rw [← Heap.size_push h { cls := .type "cell", data := .cell none }] at hm
      rcases cells_mem hm with hm | ⟨h1, h2, h3⟩
      · rcases List.mem_cons.mp hm with e | hm
        · cases e
          exact .inr ⟨hk ▸ List.mem_cons_self, Nat.le_refl _, _, pushCells_keeps r _ _ _ (Heap.get?_push_size _ rfl), rfl⟩
        · exact .inl hm
      · rw [Heap.size_push] at h2
        exact .inr ⟨List.mem_cons_of_mem _ h1, Nat.le_of_succ_le h2, h3⟩
    · rename_i hk
      rw [if_neg hk]
      rcases cells_mem hm with hm | ⟨h1, h2, h3⟩
      · exact .inl hm
      · exact .inr ⟨List.mem_cons_of_mem _ h1, h2, h3⟩
theorem cells_acc : ∀ {names : List (Str × NameKind)} {n : Nat} {acc : List (Str × Addr)} {p : Str × Addr}, p ∈ acc → p ∈ cellsFrom n names acc
  | [], _, _, _, h => h
  | (m, k) :: r, n, acc, p, h => by
    unfold cellsFrom
    split
    · exact cells_acc (List.mem_cons_of_mem _ h)
    · exact cells_acc h
theorem cells_has : ∀ {names : List (Str × NameKind)} {n : Nat} {acc : List (Str × Addr)} {x : Str}, (x, .cell) ∈ names → ∃ c, (x, c) ∈ cellsFrom n names acc
  | (m, k) :: r, n, acc, x, h => by
    unfold cellsFrom
    rcases List.mem_cons.mp h with e | h
    · cases e
      exact ⟨n, cells_acc List.mem_cons_self⟩
    · split
      · exact cells_has h
      · exact cells_has h
theorem cells_inj : ∀ {names : List (Str × NameKind)} {h : Heap} {acc : List (Str × Addr)} {x y : Str} {c : Addr}, (∀ p ∈ acc, p.2 < h.objs.size) → (∀ x y c, (x, c) ∈ acc → (y, c) ∈ acc → x = y) →
    (x, c) ∈ cellsFrom h.objs.size names acc → (y, c) ∈ cellsFrom h.objs.size names acc → x = y
  | [], _, _, _, _, _, _, hi, h1, h2 => hi _ _ _ h1 h2
  | (n, k) :: r, h, acc, x, y, c, hl, hi, h1, h2 => by
    unfold cellsFrom at h1 h2
    split at h1
    · rename_i hk
      rw [if_pos hk] at h2
      rw [← Heap.size_push h { cls := .type "cell", data := .cell none }] at h1 h2
      refine cells_inj (h := h.push _) (fun p hp => ?_) (fun x y c a b => ?_) h1 h2
      · rw [Heap.size_push]
        rcases List.mem_cons.mp hp with rfl | hp
        · exact Nat.lt_succ_self _
        · exact Nat.lt_succ_of_lt (hl p hp)
      · rcases List.mem_cons.mp a with e | a <;> rcases List.mem_cons.mp b with e' | b
        · cases e; cases e'; rfl
        · cases e; exact absurd (hl _ b) (Nat.lt_irrefl _)
        · cases e'; exact absurd (hl _ a) (Nat.lt_irrefl _)
        · exact hi _ _ _ a b
    · rename_i hk
      rw [if_neg hk] at h2
      exact cells_inj hl hi h1 h2
theorem newEnv_comp {M : Model} {A : Around} {E : Value → Shared → Prop} {s : Shared} {scope : Scope} {globals : Addr} {closure : List (Str × Addr)} {qual : Str} {func : Option Addr} {code : Value} {around : Env} {builtins : Addr} {Q : Env → Shared → Prop}
    (h : Q (newEnv scope s.heap.objs.size globals (cellsFrom (s.heap.objs.size + 1) scope.names closure) qual func code (some around) builtins)
      { s with heap := pushCells (s.heap.push { cls := .type "dict", data := .dict #[] }) scope.names }) :
    wpAny M A (newFunctionEnv scope globals closure [] qual func code (some around) builtins) Q E s := by
  simp only [newFunctionEnv, Option.isSome_some, if_true]
  refine wpAny_bind (wpAny_alloc ?_)
  refine wpAny_bind (wpAny_layCells _ (fun n k c => rfl) scope.names closure _ _ ?_)
  rw [show ({ s with heap := s.heap.push { cls := .type "dict", data := .dict #[] } } : Shared).heap.objs.size = s.heap.objs.size + 1 from Heap.size_push ..]
  rw [List.forIn_nil]
  exact wpAny_bind (wpAny_pure (wpAny_pure h))
/-- every name of the written scope, in the scope that runs -/
theorem lookup_relS {sc : Scope} : ∀ {names : List (Str × NameKind)} {x : Str} {k : NameKind},
    (names.map fun (n, k) => if (k == NameKind.free && sc.kind == .function && sc.names.lookup n == some .cell) then (n, NameKind.cell) else (n, k)).lookup x = some k →
    ∃ k', names.lookup x = some k' ∧ (k = k' ∨ (k' = .free ∧ k = .cell))
  | [], _, _, h => by simp at h
  | (n, k₀) :: r, x, k, h => by
    have ih := @lookup_relS sc r x k
    have h' : List.lookup x ((if (k₀ == NameKind.free && sc.kind == .function && sc.names.lookup n == some .cell) = true then (n, NameKind.cell) else (n, k₀)) :: (r.map _)) = some k := h
    cases hx : x == n with
    | true =>
      simp only [List.lookup_cons, hx]
      by_cases hc : (k₀ == NameKind.free && sc.kind == .function && sc.names.lookup n == some .cell) = true
      · rw [if_pos hc] at h'
        simp only [List.lookup_cons, hx] at h'
        cases h'
        simp only [Bool.and_eq_true, beq_iff_eq] at hc
        exact ⟨k₀, rfl, .inr ⟨hc.1.1, rfl⟩⟩
      · rw [if_neg hc] at h'
        simp only [List.lookup_cons, hx] at h'
        cases h'
        exact ⟨_, rfl, .inl rfl⟩
    | false =>
      simp only [List.lookup_cons, hx]
      by_cases hc : (k₀ == NameKind.free && sc.kind == .function && sc.names.lookup n == some .cell) = true
      · rw [if_pos hc] at h'
        simp only [List.lookup_cons, hx] at h'
        exact ih h'
      · rw [if_neg hc] at h'
        simp only [List.lookup_cons, hx] at h'
        exact ih h'
/-- the names of a comprehension's block: its own (with their places in N), or captured -/
structure BlkOk (N : List Str) (sc scope : Scope) (own : List (Str × Nat)) : Prop where
  kind : scope.kind = .function
  uniq : ∀ y ∈ scope.names, scope.names.lookup y.1 = some y.2
  ix : ∀ p ∈ own, N[p.2]? = some p.1
  free : ∀ y ∈ scope.names, y.2 = .free → sc.names.lookup y.1 = some .cell ∨ sc.names.lookup y.1 = some .free
  own : ∀ y ∈ scope.names, y.2 = .local ∨ y.2 = .cell → y.1 ∈ own.map (·.1) ∨ y.1 ∉ N
/-- the slots of the block's own names forgotten -/
def wipe (σ : St) : List Nat → St
  | [] => σ
  | v :: vs => (wipe σ vs).set v none
theorem wipe_length (σ : St) : ∀ vs : List Nat, (wipe σ vs).length = σ.length
  | [] => rfl
  | v :: vs => by unfold wipe; rw [List.length_set, wipe_length σ vs]
theorem wipe_some {σ : St} {i : Nat} {x : V} : ∀ {vs : List Nat}, (wipe σ vs)[i]? = some (some x) → σ[i]? = some (some x) ∧ i ∉ vs
  | [], h => ⟨h, by simp⟩
  | v :: vs, h => by
    unfold wipe at h
    by_cases hi : v = i
    · subst hi
      by_cases hv : v < (wipe σ vs).length
      · rw [List.getElem?_set_self hv] at h; cases h
      · rw [List.getElem?_eq_none (by simpa using hv)] at h; cases h
    · rw [List.getElem?_set_ne hi] at h
      obtain ⟨h1, h2⟩ := wipe_some h
      exact ⟨h1, by simp only [List.mem_cons, not_or]; exact ⟨fun e => hi e.symm, h2⟩⟩
/-- the context of a block that starts at s, its iterator's objects at fp -/
abbrev Cx.blk (X : Cx) (s : Shared) (H : Hp) (scope : Scope) (cenv : Env) (fp : List Addr) : Cx := { X with s_0 := s, H_0 := H, env := cenv, outer := X.stack, ex := fp, fn := fun x => scope.names.lookup x == some .cell, pn := [], xe := fun _ _ => False }
section
variable {X : Cx} {pins : List (Addr × Obj)} {σ : St} {H : Hp} {s : Shared}
theorem block_start {scope : Scope} {own : List (Str × Nat)} {fp : List Addr} (I : Inv X pins σ H s) (ok : BlkOk X.N X.env.scope scope own) (hN : X.N.Nodup) (hfp : ∀ b ∈ fp, FpOk X pins H b ∧ b < s.heap.objs.size) :
    Inv (X.blk s H scope (compEnvC scope (cellsFrom (s.heap.objs.size + 1) scope.names (cloFrom X.env.cells scope.names [])) s.heap.objs.size X.env) fp) [] (wipe σ (own.map (·.2))) H { s with heap := pushCells (s.heap.push { cls := .type "dict", data := .dict #[] }) scope.names } := by
  have hfree : ∀ y ∈ scope.names, y.2 = .free → ∃ c, X.env.cells.lookup y.1 = some c := fun y hy e => by
    rcases ok.free y hy e with k | k
    · exact I.ok.has _ (.inl k)
    · exact I.ok.has _ (.inr k)
  generalize hcenv : compEnvC scope (cellsFrom (s.heap.objs.size + 1) scope.names (cloFrom X.env.cells scope.names [])) s.heap.objs.size X.env = cenv
  have kp : ∀ b o, s.heap.get? b = some o → (pushCells (s.heap.push { cls := .type "dict", data := .dict #[] }) scope.names).get? b = some o := fun b o e => pushCells_keeps _ _ _ _ (Heap.get?_push_of_some _ e)
  have hL : cenv.locals = s.heap.objs.size := by rw [← hcenv]; rfl
  have hcl : cenv.cells = cellsFrom (s.heap.objs.size + 1) scope.names (cloFrom X.env.cells scope.names []) := by rw [← hcenv]; rfl
  have hsc : cenv.scope = relS scope X.env.scope := by rw [← hcenv]; rfl
  rw [← Heap.size_push s.heap { cls := .type "dict", data := .dict #[] }] at hcl
  have cm : ∀ {y c}, (y, c) ∈ cloFrom X.env.cells scope.names [] → X.env.cells.lookup y = some c ∧ c < s.heap.objs.size := fun {y c} hm => by
    rcases cloFrom_mem hm with hm | ⟨h1, rfl⟩
    · cases hm
    · obtain ⟨c, hc⟩ := hfree _ h1 rfl
      rw [hc]
      obtain ⟨w, z⟩ := I.cell _ _ hc
      exact ⟨rfl, z.lt⟩
  have mem : ∀ {y c}, cenv.cells.lookup y = some c → (X.env.cells.lookup y = some c ∧ c < s.heap.objs.size) ∨ (s.heap.objs.size + 1 ≤ c ∧ CellAt (pushCells (s.heap.push { cls := .type "dict", data := .dict #[] }) scope.names) c none) := fun {y c} e => by
    rw [hcl] at e
    rcases cells_mem (PySem.mem_of_lookup e) with hm | ⟨_, h2, h3⟩
    · exact .inl (cm hm)
    · rw [Heap.size_push] at h2; exact .inr ⟨h2, h3⟩
  have look : ∀ {y}, scope.names.lookup y = some .free → ∃ c, cenv.cells.lookup y = some c ∧ X.env.cells.lookup y = some c := fun {y} hl => by
    have hy : (y, NameKind.free) ∈ scope.names := PySem.mem_of_lookup hl
    obtain ⟨c', e'⟩ := mem_lookup (cells_acc (names := scope.names) (n := (s.heap.push { cls := .type "dict", data := .dict #[] }).objs.size) (cloFrom_has (cells := X.env.cells) (acc := []) hy))
    rw [← hcl] at e'
    refine ⟨c', e', ?_⟩
    rw [hcl] at e'
    rcases cells_mem (PySem.mem_of_lookup e') with hm | ⟨h1, _, _⟩
    · exact (cm hm).1
    · have := ok.uniq _ h1
      rw [hl] at this; cases this
  have okB : (X.blk s H scope cenv fp).Ok := by
    refine ⟨I.ok.mod, by show cenv.scope.kind = _; rw [hsc]; exact ok.kind, by show cenv.globals = _; rw [← hcenv]; exact I.ok.glob, by show cenv.builtins = _; rw [← hcenv]; exact I.ok.blt, by show s.heap.objs.size ≤ cenv.locals; rw [hL]; exact Nat.le_refl _,
      fun y z c e1 e2 => ?_, fun y hy => ?_, fun y c z e => ?_, I.ok.hd, I.ok.frames, .inl rfl, fun b hb => ⟨?_, fun y c e z => ?_⟩, I.bs, Nat.le_trans I.ok.bsz I.sz, fun b o e hb => ?_, fun b hb z => ?_, I.stack, I.stkFree⟩
    · have e1 : cenv.cells.lookup y = some c := e1
      have e2 : cenv.cells.lookup z = some c := e2
      rw [hcl] at e1 e2
      refine cells_inj (fun p hp => ?_) (fun y z c a b => I.ok.inj y z c (cm a).1 (cm b).1) (PySem.mem_of_lookup e1) (PySem.mem_of_lookup e2)
      rw [Heap.size_push]
      exact Nat.lt_succ_of_lt (cm (y := p.1) (c := p.2) hp).2
    · show ∃ c, cenv.cells.lookup y = some c
      have key : ∀ k, cenv.kindOf y = some k → (k = .cell ∨ k = .free) → ∃ c, cenv.cells.lookup y = some c := fun k hk hk' => by
        unfold Env.kindOf at hk
        rw [hsc] at hk
        obtain ⟨k', e, r⟩ := lookup_relS hk
        have : k' = .cell ∨ k' = .free := by
          rcases r with rfl | ⟨rfl, _⟩
          · exact hk'
          · exact .inr rfl
        rcases this with rfl | rfl
        · obtain ⟨c, hm⟩ := cells_has (n := (s.heap.push { cls := .type "dict", data := .dict #[] }).objs.size) (acc := cloFrom X.env.cells scope.names []) (PySem.mem_of_lookup e)
          obtain ⟨c', e'⟩ := mem_lookup hm
          exact ⟨c', by rw [hcl]; exact e'⟩
        · obtain ⟨c, h1, _⟩ := look e
          exact ⟨c, h1⟩
      rcases hy with hy | hy
      · exact key _ hy (.inl rfl)
      · exact key _ hy (.inr rfl)
    · have z : (scope.names.lookup y == some NameKind.cell) = true := z
      have z : scope.names.lookup y = some .cell := by simpa using z
      have e : cenv.cells.lookup y = some c := e
      rw [hcl] at e
      rcases cells_mem (PySem.mem_of_lookup e) with hm | ⟨_, h2, _⟩
      · rcases cloFrom_mem hm with hm | ⟨h1, _⟩
        · cases hm
        · have q := ok.uniq _ h1
          rw [z] at q; cases q
      · rw [Heap.size_push] at h2
        exact Nat.le_of_succ_le h2
    · show b ≠ cenv.locals
      rw [hL]; exact Nat.ne_of_lt (hfp b hb).2
    · have e : cenv.cells.lookup y = some c := e
      rcases mem e with ⟨h1, _⟩ | ⟨h1, _⟩
      · exact (hfp b hb).1.2.2.2.2.1 y c h1 z
      · have h2 : s.heap.objs.size + 1 ≤ b := by rw [← z]; exact h1
        exact absurd (Nat.lt_of_lt_of_le (hfp b hb).2 (Nat.le_of_succ_le h2)) (Nat.lt_irrefl _)
    · rcases (hfp b hb).1.2.2.2.1 with z | z
      · exact I.ok.noex b o e z
      · exact absurd (Nat.lt_of_lt_of_le (Heap.lt_size e) (Nat.le_trans I.ok.bsz z)) (Nat.lt_irrefl _)
    · rcases List.mem_cons.mp (I.stkSub b z) with z | z
      · exact (hfp b hb).1.2.1 z
      · exact (hfp b hb).1.2.2.1 z
  refine ⟨okB, rfl, I.bare, Un.kept kp, ⟨fun _ => none, ?_, fun i y av e1 e2 e3 => ?_⟩, fun y c e => ?_, ?_, fun y c e => ?_, fun p hp => ?_, I.hok.kept kp, by rw [wipe_length]; exact I.len⟩
  · show Heap.Ns _ cenv.locals _
    rw [hL]
    exact Heap.Ns.keeps (Heap.Ns.new ..) fun b o e => pushCells_keeps _ _ _ _ e
  · obtain ⟨e2, hne⟩ := wipe_some e2
    have hfr : scope.names.lookup y = some .free ∧ (cenv.kindOf y = some .cell ∨ cenv.kindOf y = some .free) := by
      have key : ∀ k, cenv.scope.names.lookup y = some k → k = .local ∨ k = .cell ∨ k = .free → scope.names.lookup y = some .free ∧ (cenv.kindOf y = some .cell ∨ cenv.kindOf y = some .free) := fun k hk hk' => by
        have hk0 := hk
        rw [hsc] at hk
        obtain ⟨k', e, r⟩ := lookup_relS hk
        have no : ¬ (k' = .local ∨ k' = .cell) := fun hh => by
          rcases ok.own _ (PySem.mem_of_lookup e) hh with e' | e'
          · obtain ⟨p, hp, hpy⟩ := List.mem_map.mp e'
            have e3 := ok.ix p hp
            have : p.1 = y := hpy
            rw [this] at e3
            exact hne (List.mem_map.mpr ⟨p, hp, nodup_ix hN e3 e1⟩)
          · exact e' (List.mem_of_getElem? e1)
        rcases r with rfl | ⟨rfl, rfl⟩
        · rcases hk' with rfl | rfl | rfl
          · exact absurd (.inl rfl) no
          · exact absurd (.inr rfl) no
          · exact ⟨e, .inr hk0⟩
        · exact ⟨e, .inl hk0⟩
      have e3 : Vis cenv.scope y := e3
      rcases e3 with e3 | e3 | e3
      · exact key _ e3 (.inl rfl)
      · exact key _ e3 (.inr (.inl rfl))
      · exact key _ e3 (.inr (.inr rfl))
    obtain ⟨m, hn, hl⟩ := I.loc
    have hvis : Vis X.env.scope y := (ok.free _ (PySem.mem_of_lookup hfr.1) rfl).elim (fun k => .inr (.inl k)) (fun k => .inr (.inr k))
    obtain ⟨w, r, q⟩ := hl i y av e1 e2 hvis
    refine ⟨w, r, .inr ⟨hfr.2, ?_⟩⟩
    obtain ⟨c, h1, h2⟩ := look hfr.1
    rcases q with ⟨k, _⟩ | ⟨_, c', e', z⟩
    · have k : X.env.scope.names.lookup y = some .local := k
      rcases ok.free _ (PySem.mem_of_lookup hfr.1) rfl with k' | k' <;> rw [show X.env.scope.names.lookup y = _ from k'] at k <;> cases k
    · rw [h2] at e'; cases e'
      exact ⟨c, h1, z.keeps kp⟩
  · have e : cenv.cells.lookup y = some c := e
    rcases mem e with ⟨h1, _⟩ | ⟨_, z⟩
    · obtain ⟨w, z⟩ := I.cell y c h1
      exact ⟨w, z.keeps kp⟩
    · exact ⟨_, z⟩
  · show H cenv.locals = none
    rw [hL]; exact I.hok.fresh (Nat.le_refl _)
  · have e : cenv.cells.lookup y = some c := e
    rcases mem e with ⟨h1, _⟩ | ⟨h1, _⟩
    · exact I.freeC y c h1
    · exact I.hok.fresh (Nat.le_of_succ_le h1)
  · exact absurd (show p ∈ ([] : List (Addr × Obj)) ++ [] from hp) (by simp)
/-- an item appended to a tracked list -/
theorem app_ok {E : Value → Shared → Prop} {D : Addr} {xs : List V} {y : V} {v : Value} {Q : Value → Shared → Prop} (I : Inv X pins σ H s) (hD : H D = some (.lst xs)) (hz : xs.length < sizeLine) (r : RelV y v)
    (h : ∀ s', Inv X pins σ (upd H D (.lst (xs ++ [y]))) s' → Q .none s') : wpAny (model X.prog X.w) X.A (call (.builtin "list.append") [.ref D, v]) Q E s := by
  obtain ⟨hz', its, n, ri, e⟩ := I.hok D _ hD
  have hl := ri.length
  refine append_at (hsz := by rw [List.size_toArray]; omega) e fun h' sb ho' => ?_
  refine h { s with heap := h' } (I.write (t' := s.toks) (by rw [hD]; trivial) (.inl rfl) (fun b u hb q => (sb.2 b hb).trans q) ⟨_, ho'⟩ ⟨by rw [List.length_append]; exact hz, its ++ [v], n + 1, ri.append (.cons r .nil), ?_⟩)
  rw [ho']
  simp
/-- a clause's tests -/
def PTs (X : Cx) (ifs : List Expr) (t : TT) : Prop :=
  ∀ (pins : List (Addr × Obj)) (s : Shared) (σ : St) (H : Hp) (Q : Bool → Hp → Prop), Inv X pins σ H s → t σ H Q →
    wpAny (model X.prog X.w) X.A (forIn ifs true fun c r => if r = true then do let ok ← isTrue c X.env (eval c X.env); pure (ForInStep.yield ok) else pure (ForInStep.yield r)) (TP X pins σ Q) X.xe s
def tYes : TT := fun _ H Q => Q true H
theorem pts_nil : PTs X [] tYes := fun _ _ _ H _ I h => wpAny_tests_nil ⟨H, I, h⟩
theorem pts_one {c : Expr} {t : TT} (h : PT X c t) : PTs X [c] t := fun pins s σ H Q I hw => wpAny_tests_one (h pins s σ H Q I hw)
end
theorem thnF {α : Type} {t : Sem α} {Q Q' : α → Shared → Prop} {M : Model} {A : Around} {E : Value → Shared → Prop} {s : Shared} (h : wpAny M A t Q (fun _ _ => False) s) (hQ : ∀ a s, Q a s → Q' a s) : wpAny M A t Q' E s := wpAny_mono h hQ fun _ _ z => False.elim z
/-- the loop of a list comprehension's block, the target of any form (codeAny_compLoop_tests asks a target that no tuple goes to; statement and proof follow it, PyProof/CompMap.lean:41-61, with the step letOwnedTupleGo kept) -/
theorem compLoop_any {prog : Program} {w : World} {A : Around} {R : Result → Shared → Prop} {s : Shared} {elt target iter : Expr} {ifs : List Expr} {scope : Scope} {pos : Pos} {it acc : Value} {env : Env} (I : Nat → Shared → Prop)
    (turn : ∀ n s, I n s → wpAny (model prog w) A (pyNext it) (fun r s₁ => match r with
      | none => R (.ok .next) s₁
      | some v => wpAny (model prog w) A (letOwnedTupleGo target it v) (fun _ s₁' => wpAny (model prog w) A (assign target env v) (fun _ s₂ =>
          wpAny (model prog w) A (forIn ifs true fun c r => if r = true then do let ok ← isTrue c env (eval c env); pure (ForInStep.yield ok) else pure (ForInStep.yield r)) (fun ok s₃ =>
            if ok = true then wpAny (model prog w) A (eval elt env) (fun x s₄ =>
              wpAny (model prog w) A (call (.builtin "list.append") [acc, x]) (fun _ s₅ => ∃ m, m < n ∧ I m s₅) (notedBy (model prog w) A env fun e s' => R (.error e) s') s₄) (notedBy (model prog w) A env fun e s' => R (.error e) s') s₃
            else ∃ m, m < n ∧ I m s₃) (notedBy (model prog w) A env fun e s' => R (.error e) s') s₂) (notedBy (model prog w) A env fun e s' => R (.error e) s') s₁') (notedBy (model prog w) A env fun e s' => R (.error e) s') s₁) (notedBy (model prog w) A env fun e s' => R (.error e) s') s)
    (n : Nat) (h : I n s) :
    codeAny (model prog w) A (.compLoop (.ListComp elt [⟨target, iter, ifs, 0⟩] scope pos) 0 it acc env) R s := by
  refine codeAny_loop rfl I (fun n s hI => ?_) n h
  show wpAny _ A ((compTurn (.ListComp elt [⟨target, iter, ifs, 0⟩] scope pos) 0 it acc env).onRaise (fun x => do noteFrame x env; theTreesLotGoes x)) _ _ s
  refine wpAny_noted ?_
  rw [compTurn_list]
  refine wpAny_bind (wpAny_standAt (wpAny_bind (wpAny_mono (turn n s hI) (fun r s₁ h₁ => ?_) fun _ _ h' => h')))
  cases r with
  | none => exact wpAny_pure h₁
  | some v =>
    refine wpAny_bind (wpAny_mono h₁ (fun _ s₁' h₁' => ?_) fun _ _ h' => h')
    refine wpAny_bind (wpAny_mono h₁' (fun _ s₂ h₂ => wpAny_bind (wpAny_mono h₂ (fun ok s₃ h₃ => ?_) fun _ _ h' => h')) fun _ _ h' => h')
    cases ok with
    | false => exact wpAny_pure ⟨rfl, h₃⟩
    | true =>
      exact wpAny_bind (wpAny_bind (wpAny_mono h₃ (fun x s₄ h₄ => wpAny_bind (wpAny_mono h₄ (fun _ s₅ h₅ => wpAny_pure (wpAny_pure ⟨rfl, h₅⟩)) fun _ _ h' => h')) fun _ _ h' => h'))
section
variable {X : Cx}
/-- [elt for target in iter if ..]: D the new list; W by the turn and a measure, Nx what a turn is to reach -/
def tLc (wi : TI) (g : TG) (tt : TT) (te : TE) (vs : List Nat) : TE := fun σ H Q => wi σ H fun J H1 => ∀ D, H1 D = none → ∃ W : Nat → Nat → Hp → Prop, (∃ m, W 0 m (upd H1 D (.lst []))) ∧ ∀ i m H, W i m H →
  (J.stop i H ∧ Q (.ref D) H) ∨ (J.go i H ∧ ∃ Nx : Hp → Prop, (∀ H', Nx H' → ∃ m', m' < m ∧ W (i + 1) m' H') ∧ ∀ x H', J.yld i H x H' → g x (wipe σ vs) H' fun σ2 H2 => wipe σ2 vs = wipe σ vs ∧ tt σ2 H2 fun b H3 =>
    if b = true then te σ2 H3 fun y H4 => ∃ acc, H4 D = some (.lst acc) ∧ acc.length < sizeLine ∧ Nx (upd H4 D (.lst (acc ++ [y]))) else Nx H3)
theorem lc_core {pins : List (Addr × Obj)} {s : Shared} {σ : St} {H : Hp} {Q : VK} {elt tg iter : Expr} {ifs : List Expr} {scope : Scope} {own : List (Str × Nat)} {pos pos' : Pos} {wi : TI} {g : TG} {tt : TT} {te : TE} {use : Option (Value → Sem Unit)} {Qf : Value → Shared → Prop}
    (hc : X.calm = true) (hN : X.N.Nodup) (I : Inv X pins σ H s) (hi : PI X tg iter wi) (ok : BlkOk X.N X.env.scope scope own)
    (hg : ∀ (s : Shared) (H : Hp) (C : Addr) (cl : List (Str × Addr)) (fp : List Addr), PG (X.blk s H scope (compEnvC scope cl C X.env) fp) tg g) (ht : ∀ (s : Shared) (H : Hp) (C : Addr) (cl : List (Str × Addr)) (fp : List Addr), PTs (X.blk s H scope (compEnvC scope cl C X.env) fp) ifs tt)
    (he : ∀ (s : Shared) (H : Hp) (C : Addr) (cl : List (Str × Addr)) (fp : List Addr), PE (X.blk s H scope (compEnvC scope cl C X.env) fp) elt te) (hs : ∀ x, foldedSetIterable iter X.env x = pure x)
    (h : tLc wi g tt te (own.map (·.2)) σ H Q)
    (hRR : ∀ D C s' m H', Inv X pins σ H' s' → Q (.ref D) H' → s'.heap.Ns C m → FpOk X pins H' C → compPost (model X.prog X.w) X.A X.xe use Qf (.ref D) C (.ok .next) s') :
    wpAny (model X.prog X.w) X.A (comprehension (.ListComp elt [⟨tg, iter, ifs, 0⟩] scope pos) scope X.env pos' (newList []) false (eval iter X.env) use) Qf X.xe s := by
  have hfree : ∀ y ∈ scope.names, y.2 = .free → ∃ c, X.env.cells.lookup y.1 = some c := fun y hy e => by
    rcases ok.free y hy e with k | k
    · exact I.ok.has _ (.inl k)
    · exact I.ok.has _ (.inr k)
  refine wpAny_comprehension_free (use := use) rfl hs (closure_ok hfree) ok.kind (fun y hy e => by rw [ok.uniq y hy, e])
    (thn (hi pins s σ H _ I h) fun xv s1 hx => thn hx fun itv s2 h2 => ?_)
  obtain ⟨it, fp, tn, J, H2, e, I2, T, st2, f2, q⟩ := h2
  subst e
  refine wpAny_newObj_type (newEnv_comp ?_) (by show 0 ≤ sizeLine; decide)
  generalize hD : s2.heap.objs.size = D
  have hDn : H2 D = none := I2.hok.fresh (Nat.le_of_eq hD)
  obtain ⟨W, ⟨m0, w0⟩, turn⟩ := q D hDn
  -- the new list
  generalize hs3 : ({ s2 with heap := s2.heap.push { cls := .type "list", data := .seq ([] : List Value).toArray } } : Shared) = s3
  have I3 : Inv X pins σ (upd H2 D (.lst [])) s3 := by
    rw [← hs3]
    refine I2.laid (t' := s2.toks) (fun b o e => Heap.get?_push_of_some _ e) (Nat.le_of_eq hD) ⟨Nat.zero_le _, [], 0, .nil, ?_⟩
    rw [← hD]
    exact Heap.get?_push_size _ rfl
  have h3 : s3.heap = s2.heap.push { cls := .type "list", data := .seq ([] : List Value).toArray } := by rw [← hs3]
  have sz : ∀ b ∈ fp, b < s2.heap.objs.size := fun b hb => by
    obtain ⟨o, e, _⟩ := T.obj _ _ st2 b hb
    exact Heap.lt_size e
  have f3 : ∀ b ∈ fp, FpOk X pins (upd H2 D (.lst [])) b ∧ b < s3.heap.objs.size := fun b hb => by
    have hlt := sz b hb
    refine ⟨⟨?_, (f2 b hb).2⟩, by rw [h3, Heap.size_push]; exact Nat.lt_succ_of_lt hlt⟩
    rw [upd_ne (by rw [← hD]; exact Nat.ne_of_lt hlt)]
    exact (f2 b hb).1
  have st3 : tn 0 s3.heap := T.keep _ _ _ st2 fun b _ o e => by rw [h3]; exact Heap.get?_push_of_some _ e
  have I4 := block_start I3 ok hN f3
  have pg := hg s3 (upd H2 D (.lst [])) s3.heap.objs.size (cellsFrom (s3.heap.objs.size + 1) scope.names (cloFrom X.env.cells scope.names [])) fp
  have pt := ht s3 (upd H2 D (.lst [])) s3.heap.objs.size (cellsFrom (s3.heap.objs.size + 1) scope.names (cloFrom X.env.cells scope.names [])) fp
  have pe := he s3 (upd H2 D (.lst [])) s3.heap.objs.size (cellsFrom (s3.heap.objs.size + 1) scope.names (cloFrom X.env.cells scope.names [])) fp
  show codeAny _ _ (.compStart (.ListComp elt [⟨tg, iter, ifs, 0⟩] scope pos) 0 (.ref it) (.ref D) (compEnvC scope (cellsFrom (s3.heap.objs.size + 1) scope.names (cloFrom X.env.cells scope.names [])) s3.heap.objs.size X.env)) (compPost (model X.prog X.w) X.A X.xe use Qf (.ref D) s3.heap.objs.size) { s3 with heap := pushCells (s3.heap.push { cls := .type "dict", data := .dict #[] }) scope.names }
  have nfp : ∀ b ∈ fp, (upd H2 D (.lst [])) b = none := fun b hb => (f3 b hb).1.1
  generalize hce : compEnvC scope (cellsFrom (s3.heap.objs.size + 1) scope.names (cloFrom X.env.cells scope.names [])) s3.heap.objs.size X.env = ce at I4 pg pt pe ⊢
  have cL : ce.locals = s3.heap.objs.size := by subst hce; rfl
  generalize hH3 : upd H2 D (.lst []) = H3 at I3 I4 pg pt pe w0 nfp f3
  generalize hs4 : ({ s3 with heap := pushCells (s3.heap.push { cls := .type "dict", data := .dict #[] }) scope.names } : Shared) = s4 at I4 ⊢
  have st4 : tn 0 s4.heap := T.keep _ _ _ st3 fun b _ o e => by rw [← hs4]; exact pushCells_keeps _ _ _ _ (Heap.get?_push_of_some _ e)
  have stat : ∀ {σ' : St} {H' : Hp} {s' : Shared}, Inv (X.blk s3 H3 scope ce fp) [] σ' H' s' → (∀ b ∈ fp, H' b = none) → ∀ b ∈ fp, FpOk (X.blk s3 H3 scope ce fp) [] H' b := fun {σ' H' s'} I' hn b hb =>
    ⟨hn b hb, (I'.ok.exf b hb).1, I'.ok.exfs b hb, .inl hb, fun x c e => (I'.ok.exf b hb).2 x c e, fun p hp => absurd (show p ∈ ([] : List (Addr × Obj)) ++ [] from hp) (by simp)⟩
  have loop : codeAny (model X.prog X.w) X.A (.compLoop (.ListComp elt [⟨tg, iter, ifs, 0⟩] scope pos) 0 (.ref it) (.ref D) ce) (compPost (model X.prog X.w) X.A X.xe use Qf (.ref D) s3.heap.objs.size) s4 := by
    refine compLoop_any (fun n s' => ∃ i H', Inv (X.blk s3 H3 scope ce fp) [] (wipe σ (own.map (·.2))) H' s' ∧ tn i s'.heap ∧ (∀ b ∈ fp, H' b = none) ∧ W i n H') ?_ m0 ⟨0, H3, I4, st4, nfp, w0⟩
    rintro n s5 ⟨i, H5, I5, st5, n5, w5⟩
    rcases turn i n H5 w5 with ⟨stop, qq⟩ | ⟨go, Nx, hNx, step⟩
    · have td := T.done (X.blk s3 H3 scope ce fp) rfl rfl rfl hc i [] s5 _ H5 (fun _ _ => False) I5 (stat I5 n5) st5 stop
      refine thnF td fun r s6 ⟨hr, I6⟩ => ?_
      subst hr
      -- back in the def's context
      have I7 : Inv X pins σ H5 s6 := I3.call' (ch := fp) I6.os I6.base I6.hok I6.bare fun b hb => ⟨(f3 b hb).1.2.2.2.1, (f3 b hb).1.2.1, (f3 b hb).1.2.2.2.2.1, (f3 b hb).1.2.2.2.2.2⟩
      have nC : H5 s3.heap.objs.size = none := by
        have z : H5 ce.locals = none := I6.free
        rw [cL] at z
        exact z
      obtain ⟨m, hn, _⟩ := I6.loc
      have hn : s6.heap.Ns ce.locals m := hn
      rw [cL] at hn
      exact hRR D s3.heap.objs.size s6 m H5 I7 qq hn (I3.fpOk (Nat.le_refl _) nC)
    · have ti := T.item (X.blk s3 H3 scope ce fp) rfl rfl rfl hc i [] s5 _ H5 (fun _ _ => False) I5 (stat I5 n5) st5 go
      refine thnF ti fun r s6 ⟨u, hr, h6⟩ => ?_
      subst hr
      refine thnF h6 fun _ s7 ⟨x, H7, I7, r7, y7, st7, n7⟩ => ?_
      have I7' := I7.pinned (stat I7 n7) (T.obj _ _ st7)
      refine thnF (pg _ s7 _ H7 x u _ I7' r7 (step x H7 y7)) fun _ s8 ⟨σ8, H8, I8, hw8, q8⟩ => ?_
      refine thnF (pt _ s8 σ8 H8 _ I8 q8) fun b s9 ⟨H9, I9, q9⟩ => ?_
      -- the turn's end
      have fin : ∀ {s' : Shared} {H' : Hp}, Inv (X.blk s3 H3 scope ce fp) ([] ++ pinsAt fp s7.heap) σ8 H' s' → Nx H' → ∃ m, m < n ∧ ∃ i H', Inv (X.blk s3 H3 scope ce fp) [] (wipe σ (own.map (·.2))) H' s' ∧ tn i s'.heap ∧ (∀ b ∈ fp, H' b = none) ∧ W i m H' := fun {s' H'} I' nx => by
        obtain ⟨m', hm, w'⟩ := hNx H' nx
        have pin' : ∀ b ∈ fp, ∀ o, s7.heap.get? b = some o → s'.heap.get? b = some o ∧ H' b = none := fun b hb o e =>
          let z := I'.pin (b, o) (List.mem_append_right _ (List.mem_append_right _ (mem_pinsAt hb e)))
          ⟨z.1, z.2.1⟩
        have hl : (wipe σ (own.map (·.2))).length = σ8.length := by rw [← hw8, wipe_length]
        refine ⟨m', hm, i + 1, H', (I'.unpinned (pins := [])).weak hl (fun j v e => ?_), T.keep _ _ _ st7 fun b hb o e => (pin' b hb o e).1, fun b hb => ?_, w'⟩
        · rw [← hw8] at e
          exact (wipe_some e).1
        · obtain ⟨o, e, _⟩ := T.obj _ _ st7 b hb
          exact (pin' b hb o e).2
      cases b with
      | false =>
        simp only [Bool.false_eq_true, if_false] at q9 ⊢
        exact fin I9 q9
      | true =>
        simp only [if_true] at q9 ⊢
        refine thnF (pe _ s9 σ8 H9 _ I9 q9) fun z s10 ⟨yv, H10, I10, r10, acc, hD10, hz10, nx⟩ => ?_
        exact app_ok (X := X.blk s3 H3 scope ce fp) I10 hD10 hz10 r10 fun s11 I11 => fin I11 nx
  exact codeAny_compStart_list loop (T.self X.A 0 _ _ _ st4 loop)
/-- as a value -/
theorem pe_lc {elt tg iter : Expr} {ifs : List Expr} {scope : Scope} {own : List (Str × Nat)} {pos : Pos} {wi : TI} {g : TG} {tt : TT} {te : TE} (hc : X.calm = true) (hN : X.N.Nodup) (hi : PI X tg iter wi) (ok : BlkOk X.N X.env.scope scope own)
    (hg : ∀ (s : Shared) (H : Hp) (C : Addr) (cl : List (Str × Addr)) (fp : List Addr), PG (X.blk s H scope (compEnvC scope cl C X.env) fp) tg g) (ht : ∀ (s : Shared) (H : Hp) (C : Addr) (cl : List (Str × Addr)) (fp : List Addr), PTs (X.blk s H scope (compEnvC scope cl C X.env) fp) ifs tt)
    (he : ∀ (s : Shared) (H : Hp) (C : Addr) (cl : List (Str × Addr)) (fp : List Addr), PE (X.blk s H scope (compEnvC scope cl C X.env) fp) elt te) (hs : ∀ x, foldedSetIterable iter X.env x = pure x := by intro _; rfl) :
    PE X (.ListComp elt [⟨tg, iter, ifs, 0⟩] scope pos) (tLc wi g tt te (own.map (·.2))) := by
  intro pins s σ H Q I h
  rw [eval_ListComp]
  refine lc_core hc hN I hi ok hg ht he hs h fun D C s' m H' I' q hn f => ⟨m, hn, fun h'' sb => ?_⟩
  obtain ⟨f0, f1, f2, f3, f4, f5⟩ := f
  exact ⟨.ref D, H', I'.turned (t' := s'.toks) (fun b o hb e => (sb.2 b hb).trans e) f0 f1 f3 f4 f5, rfl, q⟩
/-- name = [..] on one line, the name a local -/
theorem ps_setLc {i : Nat} {y : Str} {py : Pos} {elt tg iter : Expr} {ifs : List Expr} {scope : Scope} {own : List (Str × Nat)} {pos spos : Pos} {wi : TI} {g : TG} {tt : TT} {te : TE} (hc : X.calm = true) (hN : X.N.Nodup) (hy : X.N[i]? = some y) (hyl : X.env.scope.names.lookup y = some .local)
    (hsw : swapsWith (.ListComp elt [⟨tg, iter, ifs, 0⟩] scope pos) (some (.Name y py)) spos.line X.env = pure true) (hi : PI X tg iter wi) (ok : BlkOk X.N X.env.scope scope own)
    (hg : ∀ (s : Shared) (H : Hp) (C : Addr) (cl : List (Str × Addr)) (fp : List Addr), PG (X.blk s H scope (compEnvC scope cl C X.env) fp) tg g) (ht : ∀ (s : Shared) (H : Hp) (C : Addr) (cl : List (Str × Addr)) (fp : List Addr), PTs (X.blk s H scope (compEnvC scope cl C X.env) fp) ifs tt)
    (he : ∀ (s : Shared) (H : Hp) (C : Addr) (cl : List (Str × Addr)) (fp : List Addr), PE (X.blk s H scope (compEnvC scope cl C X.env) fp) elt te) (hs : ∀ x, foldedSetIterable iter X.env x = pure x := by intro _; rfl) :
    PS X (.Assign [.Name y py] (.ListComp elt [⟨tg, iter, ifs, 0⟩] scope pos) spos) (tAsg (tLc wi g tt te (own.map (·.2))) (gName i)) := by
  intro pins s σ H D I h
  rw [exec_Assign_Name_used _ _ _ _ hsw]
  refine wpAny_bind (wpAny_standAt (wpAny_bind ?_))
  show wpAny _ X.A (do let _ ← comprehension (.ListComp elt [⟨tg, iter, ifs, 0⟩] scope pos) scope X.env (firstIterPos [⟨tg, iter, ifs, 0⟩] pos) (newList []) false (eval iter X.env) (some (assign (.Name y py) X.env))) _ _ s
  have h : tLc wi g tt te (own.map (·.2)) σ H (fun x H1 => gName i x σ H1 D.nx) := h
  refine wpAny_bind (thn (lc_core (Qf := fun _ s' => SP X pins D .next s') hc hN I hi ok hg ht he hs h fun L C s' m H' I' q hn f => ?_) fun _ s' hq => wpAny_pure (wpAny_pure hq))
  show wpAny _ _ (assign (.Name y py) X.env (.ref L)) _ _ _
  refine wpAny_assign_Name (store_ok2 (v := V.ref L) I' hN hy (.inl hyl) rfl (fun s2 I2 ⟨a, sb, ha⟩ => ?_) (.inr hyl))
  obtain ⟨f0, f1, f2, f3, f4, f5⟩ := f
  have haC : C ≠ a := by
    rcases ha with z | z
    · rw [z]; exact f1
    · exact fun e => f4 y a z e.symm
  refine ⟨m, hn.sameBut sb haC, fun h3 sb3 => ?_⟩
  exact ⟨_, H', I2.turned (t' := s2.toks) (fun b o hb e => (sb3.2 b hb).trans e) f0 f1 f3 f4 f5, q⟩
theorem sw_true {elt : Expr} {gs : List Comprehension} {scope : Scope} {pos py : Pos} {y : Str} {l : Nat} {env : Env} (hk : env.scope.kind = .function) (hy : env.scope.names.lookup y = some .local) (hl : (py.line == pos.line) = true)
    (ha : (scope.names.any fun (n, k) => n == y && (k == .local || k == .cell)) = false) : swapsWith (.ListComp elt gs scope pos) (some (.Name y py)) l env = pure true := by
  have ky : env.kindOf y = some .local := hy
  have hb : env.blockKind = .function := by unfold Env.blockKind; rw [hk]; rfl
  unfold swapsWith
  simp only [hb, ky, ha, Expr.pos, hl]
  rfl
end
/-- over a range: Pv by the turn and the heap (the new list at D within) -/
theorem lc_range {lo : Int} {n : Nat} {g : TG} {tt : TT} {te : TE} {vs : List Nat} {σ : St} {H1 : Hp} {D : Addr} {Qd : Hp → Prop} (Pv : Nat → Hp → Prop) (h0 : Pv 0 (upd H1 D (.lst [])))
    (hs : ∀ i H, i < n → Pv i H → g (.int (lo + i)) (wipe σ vs) H fun σ2 H2 => wipe σ2 vs = wipe σ vs ∧ tt σ2 H2 fun b H3 =>
      if b = true then te σ2 H3 fun y H4 => ∃ acc, H4 D = some (.lst acc) ∧ acc.length < sizeLine ∧ Pv (i + 1) (upd H4 D (.lst (acc ++ [y]))) else Pv (i + 1) H3) (hd : ∀ H, Pv n H → Qd H) :
    ∃ W : Nat → Nat → Hp → Prop, (∃ m, W 0 m (upd H1 D (.lst []))) ∧ ∀ i m H, W i m H →
      ((Itr lo n).stop i H ∧ Qd H) ∨ ((Itr lo n).go i H ∧ ∃ Nx : Hp → Prop, (∀ H', Nx H' → ∃ m', m' < m ∧ W (i + 1) m' H') ∧ ∀ x H', (Itr lo n).yld i H x H' → g x (wipe σ vs) H' fun σ2 H2 => wipe σ2 vs = wipe σ vs ∧ tt σ2 H2 fun b H3 =>
        if b = true then te σ2 H3 fun y H4 => ∃ acc, H4 D = some (.lst acc) ∧ acc.length < sizeLine ∧ Nx (upd H4 D (.lst (acc ++ [y]))) else Nx H3) := by
  refine ⟨fun i m H => m = n - i ∧ i ≤ n ∧ Pv i H, ⟨n, by simp, Nat.zero_le _, h0⟩, ?_⟩
  rintro i m H ⟨rfl, hi, p⟩
  by_cases hlt : i < n
  · refine .inr ⟨hlt, Pv (i + 1), fun H' p' => ⟨n - (i + 1), by omega, rfl, hlt, p'⟩, fun x H' y => ?_⟩
    obtain ⟨e, y⟩ := y
    subst e y
    exact hs i _ hlt p
  · have e : i = n := by omega
    subst e
    exact .inl ⟨Nat.le_refl _, hd H p⟩
/-- over a list that the block leaves as it is -/
theorem lc_list {K : PySem.W.Frag} {a : Addr} {xs : List V} {g : TG} {tt : TT} {te : TE} {vs : List Nat} {σ : St} {H1 : Hp} {D : Addr} {Qd : Hp → Prop} (Pv : Nat → Hp → Prop) (h0 : Pv 0 (upd H1 D (.lst []))) (hl : ∀ i H, i ≤ xs.length → Pv i H → SqL K H a xs)
    (hs : ∀ i x H, xs[i]? = some x → Pv i H → g x (wipe σ vs) H fun σ2 H2 => wipe σ2 vs = wipe σ vs ∧ tt σ2 H2 fun b H3 =>
      if b = true then te σ2 H3 fun y H4 => ∃ acc, H4 D = some (.lst acc) ∧ acc.length < sizeLine ∧ Pv (i + 1) (upd H4 D (.lst (acc ++ [y]))) else Pv (i + 1) H3) (hd : ∀ H, Pv xs.length H → Qd H) :
    ∃ W : Nat → Nat → Hp → Prop, (∃ m, W 0 m (upd H1 D (.lst []))) ∧ ∀ i m H, W i m H →
      ((Itl K a).stop i H ∧ Qd H) ∨ ((Itl K a).go i H ∧ ∃ Nx : Hp → Prop, (∀ H', Nx H' → ∃ m', m' < m ∧ W (i + 1) m' H') ∧ ∀ x H', (Itl K a).yld i H x H' → g x (wipe σ vs) H' fun σ2 H2 => wipe σ2 vs = wipe σ vs ∧ tt σ2 H2 fun b H3 =>
        if b = true then te σ2 H3 fun y H4 => ∃ acc, H4 D = some (.lst acc) ∧ acc.length < sizeLine ∧ Nx (upd H4 D (.lst (acc ++ [y]))) else Nx H3) := by
  refine ⟨fun i m H => m = xs.length - i ∧ i ≤ xs.length ∧ Pv i H, ⟨xs.length, by simp, Nat.zero_le _, h0⟩, ?_⟩
  rintro i m H ⟨rfl, hi, p⟩
  have q := hl i H hi p
  by_cases hlt : i < xs.length
  · refine .inr ⟨⟨xs, xs[i], q, by simp [hlt]⟩, Pv (i + 1), fun H' p' => ⟨xs.length - (i + 1), by omega, rfl, hlt, p'⟩, fun x H' y => ?_⟩
    obtain ⟨e, y⟩ := y
    subst e
    exact hs i x _ (y xs q) p
  · have e : i = xs.length := by omega
    subst e
    exact .inl ⟨⟨xs, q, Nat.le_refl _⟩, hd H p⟩
/-- over a tuple -/
theorem lc_tup {K : PySem.W.Frag} {a : Addr} {xs : List V} {g : TG} {tt : TT} {te : TE} {vs : List Nat} {σ : St} {H1 : Hp} {D : Addr} {Qd : Hp → Prop} (Pv : Nat → Hp → Prop) (h0 : Pv 0 (upd H1 D (.lst []))) (hl : ∀ i H, i ≤ xs.length → Pv i H → SqT K H a xs)
    (hs : ∀ i x H, xs[i]? = some x → Pv i H → g x (wipe σ vs) H fun σ2 H2 => wipe σ2 vs = wipe σ vs ∧ tt σ2 H2 fun b H3 =>
      if b = true then te σ2 H3 fun y H4 => ∃ acc, H4 D = some (.lst acc) ∧ acc.length < sizeLine ∧ Pv (i + 1) (upd H4 D (.lst (acc ++ [y]))) else Pv (i + 1) H3) (hd : ∀ H, Pv xs.length H → Qd H) :
    ∃ W : Nat → Nat → Hp → Prop, (∃ m, W 0 m (upd H1 D (.lst []))) ∧ ∀ i m H, W i m H →
      ((Itt K a).stop i H ∧ Qd H) ∨ ((Itt K a).go i H ∧ ∃ Nx : Hp → Prop, (∀ H', Nx H' → ∃ m', m' < m ∧ W (i + 1) m' H') ∧ ∀ x H', (Itt K a).yld i H x H' → g x (wipe σ vs) H' fun σ2 H2 => wipe σ2 vs = wipe σ vs ∧ tt σ2 H2 fun b H3 =>
        if b = true then te σ2 H3 fun y H4 => ∃ acc, H4 D = some (.lst acc) ∧ acc.length < sizeLine ∧ Nx (upd H4 D (.lst (acc ++ [y]))) else Nx H3) := by
  refine ⟨fun i m H => m = xs.length - i ∧ i ≤ xs.length ∧ Pv i H, ⟨xs.length, by simp, Nat.zero_le _, h0⟩, ?_⟩
  rintro i m H ⟨rfl, hi, p⟩
  have q := hl i H hi p
  by_cases hlt : i < xs.length
  · refine .inr ⟨⟨xs, xs[i], q, by simp [hlt]⟩, Pv (i + 1), fun H' p' => ⟨xs.length - (i + 1), by omega, rfl, hlt, p'⟩, fun x H' y => ?_⟩
    obtain ⟨e, y⟩ := y
    subst e
    exact hs i x _ (y xs q) p
  · have e : i = xs.length := by omega
    subst e
    exact .inl ⟨⟨xs, q, Nat.le_refl _⟩, hd H p⟩
def blkC (N : List Str) (sc scope : Scope) (own : List (Str × Nat)) : Bool :=
  (match scope.kind with | .function => true | _ => false) && (scope.names.all fun y => decide (scope.names.lookup y.1 = some y.2)) && (own.all fun p => decide (N[p.2]? = some p.1)) &&
    (scope.names.all fun y => match y.2 with
      | .free => (match sc.names.lookup y.1 with | some .cell => true | some .free => true | _ => false)
      | .local => decide (y.1 ∈ own.map (·.1)) || decide (y.1 ∉ N)
      | .cell => decide (y.1 ∈ own.map (·.1)) || decide (y.1 ∉ N)
      | _ => true)
theorem blkOk_by {N : List Str} {sc scope : Scope} {own : List (Str × Nat)} (h : blkC N sc scope own = true) : BlkOk N sc scope own := by
  unfold blkC at h
  simp only [Bool.and_eq_true, List.all_eq_true, decide_eq_true_eq] at h
  obtain ⟨⟨⟨h1, h2⟩, h3⟩, h4⟩ := h
  refine ⟨?_, h2, h3, fun y hy e => ?_, fun y hy e => ?_⟩
  · split at h1
    · assumption
    · cases h1
  · have q := h4 y hy
    simp only [e] at q
    split at q <;> first | exact .inl (by assumption) | exact .inr (by assumption) | cases q
  · have q := h4 y hy
    rcases e with e | e <;> (simp only [e, Bool.or_eq_true, decide_eq_true_eq] at q; exact q)
end L2
namespace L2
open PySem PySem.Spec PyProof.Rows
section
variable {prog : Program} {w : World} {A : Around} {R : Result → Shared → Prop} {s : Shared} {elt t0 i0 t1 i1 : Expr} {ifs0 ifs1 : List Expr} {scope : Scope} {pos : Pos} {it acc : Value} {env : Env}
end
section
variable {X : Cx}
/-- [elt for tg in iter if .. for tg1 in iter1 if ..]: behind the first clause's store and tests the second source's own loop, from which Nx is reached. vs: the block's names; vs1: those of the second target -/
def tLc2 (wi : TI) (g : TG) (tt : TT) (wi1 : TI) (g1 : TG) (tt1 : TT) (te : TE) (vs vs1 : List Nat) : TE := fun σ H Q => wi σ H fun J H1 => ∀ D, H1 D = none → ∃ W : Nat → Nat → Hp → Prop, (∃ m, W 0 m (upd H1 D (.lst []))) ∧ ∀ i m H, W i m H →
  (J.stop i H ∧ Q (.ref D) H) ∨ (J.go i H ∧ ∃ Nx : Hp → Prop, (∀ H', Nx H' → ∃ m', m' < m ∧ W (i + 1) m' H') ∧ ∀ x H', J.yld i H x H' → g x (wipe σ vs) H' fun σ2 H2 => wipe σ2 vs = wipe σ vs ∧ tt σ2 H2 fun b H3 =>
    if b = true then wi1 σ2 H3 fun J1 H4 => ∃ W1 : Nat → Nat → Hp → Prop, (∃ m, W1 0 m H4) ∧ ∀ j k H, W1 j k H →
      (J1.stop j H ∧ Nx H) ∨ (J1.go j H ∧ ∃ Nx1 : Hp → Prop, (∀ H', Nx1 H' → ∃ k', k' < k ∧ W1 (j + 1) k' H') ∧ ∀ x H', J1.yld j H x H' → g1 x (wipe σ2 vs1) H' fun σ3 H5 => wipe σ3 vs1 = wipe σ2 vs1 ∧ tt1 σ3 H5 fun b H6 =>
        if b = true then te σ3 H6 fun y H7 => ∃ acc, H7 D = some (.lst acc) ∧ acc.length < sizeLine ∧ Nx1 (upd H7 D (.lst (acc ++ [y]))) else Nx1 H6)
    else Nx H3)
end
end L2
namespace L2
open PySem PySem.Spec PyProof.Rows
section
variable {κ : Type} [DecidableEq κ]
def valV (kvs : List (κ × V)) (k : κ) : Option V := (kvs.find? fun kv => decide (kv.1 = k)).map (·.2)
/-- in its place, or at the end -/
def putK (kvs : List (κ × V)) (k : κ) (v : V) : List (κ × V) :=
  if (kvs.any fun kv => decide (kv.1 = k)) = true then kvs.map (fun kv => if kv.1 = k then (kv.1, v) else kv) else kvs ++ [(k, v)]
def dropK (kvs : List (κ × V)) (k : κ) : List (κ × V) := kvs.filter fun kv => decide (kv.1 ≠ k)
theorem valV_pos {p : κ × V} {r : List (κ × V)} {k : κ} (e : p.1 = k) : valV (p :: r) k = some p.2 := by simp [valV, List.find?_cons, e]
theorem valV_neg {p : κ × V} {r : List (κ × V)} {k : κ} (e : ¬ p.1 = k) : valV (p :: r) k = valV r k := by simp [valV, List.find?_cons, e]
theorem valV_any (k : κ) : ∀ kvs : List (κ × V), (kvs.any fun kv => decide (kv.1 = k)) = (valV kvs k).isSome
  | [] => rfl
  | p :: r => by
    rw [List.any_cons]
    by_cases e : p.1 = k
    · simp only [valV_pos e, decide_eq_true e, Bool.true_or, Option.isSome_some]
    · rw [valV_neg e, decide_eq_false e, Bool.false_or]; exact valV_any k r
theorem RelO.isSome_eq {o : Option V} {u : Option Value} (r : RelO o u) : o.isSome = u.isSome := by
  cases o with
  | none => cases u with
    | none => rfl
    | some _ => exact (show False from r).elim
  | some _ => cases u with
    | none => exact (show False from r).elim
    | some _ => rfl
theorem RelO.getD {o : Option V} {u : Option Value} {d : V} {d' : Value} (r : RelO o u) (rd : RelV d d') : RelV (o.getD d) (u.getD d') := by
  cases o with
  | none => cases u with
    | none => exact rd
    | some _ => exact (show False from r).elim
  | some _ => cases u with
    | none => exact (show False from r).elim
    | some _ => exact r
/-- raw tables of the same keys -/
theorem KV.val {kvs : List (κ × V)} {vs : List (κ × Value)} (r : KV kvs vs) (k : κ) : RelO (valV kvs k) (valueAt vs k) := by
  unfold KV at r
  induction r with
  | nil => exact True.intro
  | @cons p q ps qs h t ih =>
    obtain ⟨h1, h2⟩ := h
    by_cases e : p.1 = k
    · have e' : q.1 = k := h1.symm.trans e
      have b : valueAt (q :: qs) k = some q.2 := by simp [valueAt, List.find?_cons, e']
      rw [valV_pos e, b]; exact h2
    · have e' : ¬ q.1 = k := fun z => e (h1.trans z)
      have b : valueAt (q :: qs) k = valueAt qs k := by simp [valueAt, List.find?_cons, e']
      rw [valV_neg e, b]; exact ih
theorem KV.any {kvs : List (κ × V)} {vs : List (κ × Value)} (r : KV kvs vs) (k : κ) : (kvs.any fun kv => decide (kv.1 = k)) = vs.any fun kv => decide (kv.1 = k) := by
  unfold KV at r
  induction r with
  | nil => rfl
  | cons h t ih => rw [List.any_cons, List.any_cons, ih, h.1]
theorem KV.repl {kvs : List (κ × V)} {vs : List (κ × Value)} (r : KV kvs vs) (k : κ) {y : V} {u : Value} (ry : RelV y u) :
    KV (kvs.map fun kv => if kv.1 = k then (kv.1, y) else kv) (vs.map fun kv => if kv.1 = k then (kv.1, u) else kv) := by
  unfold KV at r ⊢
  induction r with
  | nil => exact .nil
  | @cons p q ps qs h t ih =>
    rw [List.map_cons, List.map_cons]
    refine .cons ?_ ih
    obtain ⟨h1, h2⟩ := h
    by_cases e : p.1 = k
    · rw [if_pos e, if_pos (h1.symm.trans e)]; exact ⟨h1, ry⟩
    · rw [if_neg e, if_neg (fun z => e (h1.trans z))]; exact ⟨h1, h2⟩
theorem KV.put {kvs : List (κ × V)} {vs : List (κ × Value)} (r : KV kvs vs) (k : κ) {y : V} {u : Value} (ry : RelV y u) : KV (putK kvs k y) (stored vs k u) := by
  unfold putK stored
  rw [r.any k]
  by_cases e : (vs.any fun kv => decide (kv.1 = k)) = true
  · rw [if_pos e, if_pos e]; exact r.repl k ry
  · rw [if_neg e, if_neg e]; exact Paired.snoc r ⟨rfl, ry⟩
theorem KV.drop {kvs : List (κ × V)} {vs : List (κ × Value)} (r : KV kvs vs) (k : κ) : KV (dropK kvs k) (without vs k) := by
  unfold KV at r ⊢
  unfold dropK without
  induction r with
  | nil => exact .nil
  | @cons p q ps qs h t ih =>
    obtain ⟨h1, h2⟩ := h
    rw [List.filter_cons, List.filter_cons]
    by_cases e : p.1 = k
    · have a : ¬ decide (p.1 ≠ k) = true := by simp [e]
      have b : ¬ decide (q.1 ≠ k) = true := by simp [h1.symm.trans e]
      rw [if_neg a, if_neg b]; exact ih
    · have e' : ¬ q.1 = k := fun z => e (h1.trans z)
      have a : decide (p.1 ≠ k) = true := by simp [e]
      have b : decide (q.1 ≠ k) = true := by simp [e']
      rw [if_pos a, if_pos b]; exact .cons ⟨h1, h2⟩ ih
theorem KV.keys {kvs : List (κ × V)} {vs : List (κ × Value)} (r : KV kvs vs) : kvs.map (·.1) = vs.map (·.1) := by
  unfold KV at r
  induction r with
  | nil => rfl
  | cons h t ih => rw [List.map_cons, List.map_cons, ih, h.1]
theorem KV.length {kvs : List (κ × V)} {vs : List (κ × Value)} (r : KV kvs vs) : kvs.length = vs.length := Paired.length r
end
/-- raw entries of a dict with tuple keys -/
abbrev KT (H : Hp) : List (List Key × V) → List (List Key × Addr × Value) → Prop := Paired fun p q => p.1 = q.1 ∧ H q.2.1 = some (.tup (p.1.map kV)) ∧ RelV p.2 q.2.2
theorem KT.val {H : Hp} {kvs : List (List Key × V)} {xs : List (List Key × Addr × Value)} (r : KT H kvs xs) (k : List Key) : RelO (valV kvs k) ((atKey xs k).map (·.2)) := by
  induction r with
  | nil => exact True.intro
  | @cons p q ps qs h t ih =>
    obtain ⟨h1, _, h2⟩ := h
    by_cases e : p.1 = k
    · have e' : q.1 = k := h1.symm.trans e
      have b : atKey (q :: qs) k = some q.2 := by simp [atKey, List.find?_cons, e']
      rw [valV_pos e, b]; exact h2
    · have e' : ¬ q.1 = k := fun z => e (h1.trans z)
      have b : atKey (q :: qs) k = atKey qs k := by simp [atKey, List.find?_cons, e']
      rw [valV_neg e, b]; exact ih
theorem KT.repl {H : Hp} {kvs : List (List Key × V)} {xs : List (List Key × Addr × Value)} (r : KT H kvs xs) (k : List Key) {y : V} {u : Value} (ry : RelV y u) :
    KT H (kvs.map fun kv => if kv.1 = k then (kv.1, y) else kv) (xs.map (putAt k u)) := by
  induction r with
  | nil => exact .nil
  | @cons p q ps qs h t ih =>
    rw [List.map_cons, List.map_cons]
    refine .cons ?_ ih
    obtain ⟨h1, h2, h3⟩ := h
    unfold putAt
    by_cases e : p.1 = k
    · rw [if_pos e, if_pos (h1.symm.trans e)]; exact ⟨h1, h2, ry⟩
    · rw [if_neg e, if_neg (fun z => e (h1.trans z))]; exact ⟨h1, h2, h3⟩
theorem KT.put {H : Hp} {kvs : List (List Key × V)} {xs : List (List Key × Addr × Value)} (r : KT H kvs xs) (k : List Key) {b : Addr} {y : V} {u : Value} (hb : H b = some (.tup (k.map kV))) (ry : RelV y u) :
    KT H (putK kvs k y) (storedH xs k b u) := by
  have e : (kvs.any fun kv => decide (kv.1 = k)) = (atKey xs k).isSome := by
    rw [valV_any, (r.val k).isSome_eq, Option.isSome_map]
  unfold putK storedH
  rw [e]
  by_cases q : (atKey xs k).isSome = true
  · rw [if_pos q, if_pos q]; exact r.repl k ry
  · rw [if_neg q, if_neg q]; exact Paired.snoc r ⟨rfl, hb, ry⟩
theorem KT.keeps {H H' : Hp} {kvs : List (List Key × V)} {xs : List (List Key × Addr × Value)} (r : KT H kvs xs) (ht : ∀ b ys, H b = some (.tup ys) → H' b = some (.tup ys)) : KT H' kvs xs :=
  Paired.mapP r fun _ _ z => ⟨z.1, ht _ _ z.2.1, z.2.2⟩
section
variable {P : Program} {w : World} {H : Hp} {h : Heap} {a : Addr}
end
/-- what the dict at a holds at the key y -/
def DGet (H : Hp) (a : Addr) (y : V) (r : Option V) : Prop :=
  (∃ kvs k, Rd H a (.dK kvs) ∧ y = kV k ∧ r = valV kvs k) ∨ ∃ kvs k b, Rd H a (.dT kvs) ∧ y = .ref b ∧ H b = some (.tup (k.map kV)) ∧ r = valV kvs k
/-- the heap behind a[y] = v -/
def DPut (H : Hp) (a : Addr) (y v : V) (H' : Hp) : Prop :=
  (∃ kvs k, H a = some (.dK kvs) ∧ y = kV k ∧ kvs.length < sizeLine ∧ H' = upd H a (.dK (putK kvs k v))) ∨
  ∃ kvs k b, H a = some (.dT kvs) ∧ y = .ref b ∧ H b = some (.tup (k.map kV)) ∧ kvs.length < sizeLine ∧ H' = upd H a (.dT (putK kvs k v))
theorem DGet.k {H : Hp} {a : Addr} {kvs : List (Key × V)} {k : Key} (e : H a = some (.dK kvs)) : DGet H a (kV k) (valV kvs k) := .inl ⟨kvs, k, .inl e, rfl, rfl⟩
theorem DGet.t {H : Hp} {a b : Addr} {kvs : List (List Key × V)} {k : List Key} (e : H a = some (.dT kvs)) (eb : H b = some (.tup (k.map kV))) : DGet H a (.ref b) (valV kvs k) := .inr ⟨kvs, k, b, .inl e, rfl, eb, rfl⟩
theorem DPut.k {H : Hp} {a : Addr} {kvs : List (Key × V)} {k : Key} {v : V} (e : H a = some (.dK kvs)) (hl : kvs.length < sizeLine) : DPut H a (kV k) v (upd H a (.dK (putK kvs k v))) := .inl ⟨kvs, k, e, rfl, hl, rfl⟩
theorem DPut.t {H : Hp} {a b : Addr} {kvs : List (List Key × V)} {k : List Key} {v : V} (e : H a = some (.dT kvs)) (eb : H b = some (.tup (k.map kV))) (hl : kvs.length < sizeLine) :
    DPut H a (.ref b) v (upd H a (.dT (putK kvs k v))) := .inr ⟨kvs, k, b, e, rfl, eb, hl, rfl⟩
section
variable {X : Cx} {pins : List (Addr × Obj)} {σ : St} {H : Hp} {s : Shared} {a : Addr} {y v : V} {u r : Value} {o : Option V} {A : Around} {E : Value → Shared → Prop}
theorem Inv.big (I : Inv X pins σ H s) : sysModules < s.heap.objs.size := by
  have h : mainGlobals < s.heap.objs.size := (I.mod.glob.keeps I.bk).lt
  exact Nat.lt_trans (by decide) h
end
section
variable {X : Cx} {pins : List (Addr × Obj)} {σ : St} {H : Hp} {s : Shared} {a : Addr} {kvs : List (Key × V)} {k : Key} {u : Value} {A : Around} {E : Value → Shared → Prop}
end
/-- the element of a subscription, not a slice -/
def NoSl (i : Expr) : Prop := ∀ ov iv, subscripted i false ov iv = operate [ov, iv] (getItem ov iv)
/-- d[y] -/
def tDGet (td ty : TE) : TE := fun σ H Q => td σ H fun x H1 => ty σ H1 fun y H2 => ∃ a v, x = .ref a ∧ DGet H2 a y (some v) ∧ Q v H2
/-- y in d, y not in d -/
def tDIn (ty td : TE) : TE := fun σ H Q => ty σ H fun y H1 => td σ H1 fun x H2 => ∃ a o, x = .ref a ∧ DGet H2 a y o ∧ Q (.bl o.isSome) H2
def tDNotIn (ty td : TE) : TE := fun σ H Q => ty σ H fun y H1 => td σ H1 fun x H2 => ∃ a o, x = .ref a ∧ DGet H2 a y o ∧ Q (.bl (!o.isSome)) H2
/-- d[y] = v -/
def sDPut (td ty tv : TE) : TS := fun D σ H => tv σ H fun v H1 => td σ H1 fun x H2 => ty σ H2 fun y H3 => ∃ a H4, x = .ref a ∧ DPut H3 a y v H4 ∧ D.nx σ H4
/-- d[y] op= v -/
def sDAug (td ty tv : TE) (rd : V → V → Hp → VK → Prop) : TS := fun D σ H => td σ H fun x H1 => ty σ H1 fun y H2 => ∃ a v, x = .ref a ∧ DGet H2 a y (some v) ∧
  tv σ H2 fun y2 H3 => rd v y2 H3 fun z H4 => ∃ H5, DPut H4 a y z H5 ∧ D.nx σ H5
/-- del d[y] -/
def sDDel (td ty : TE) : TS := fun D σ H => td σ H fun x H1 => ty σ H1 fun y H2 => ∃ a kvs k, x = .ref a ∧ H2 a = some (.dK kvs) ∧ y = kV k ∧ (valV kvs k).isSome = true ∧ D.nx σ (upd H2 a (.dK (dropK kvs k)))
section
variable {X : Cx} {o i e value : Expr} {pos pos' tpos : Pos} {td ty tv : TE}
end
/-- {}, to be a dict of the kind that is wanted -/
def tDNewK : TE := fun _ H Q => ∀ p, H p = none → Q (.ref p) (upd H p (.dK []))
def tDNewT : TE := fun _ H Q => ∀ p, H p = none → Q (.ref p) (upd H p (.dT []))
section
variable {X : Cx} {pos : Pos}
end
/-- the pairs of a display, from the left -/
def tPairs : List (TE × TE) → St → Hp → (List (V × V) → Hp → Prop) → Prop
  | [], _, H, Q => Q [] H
  | (tk, tv) :: r, σ, H, Q => tk σ H fun x H1 => tv σ H1 fun y H2 => tPairs r σ H2 fun ps H3 => Q ((x, y) :: ps) H3
abbrev VV : List (V × V) → List (Value × Value) → Prop := Paired fun p q => RelV p.1 q.1 ∧ RelV p.2 q.2
def PPs (X : Cx) (pos : Pos) (keys : List (Option Expr)) (values : List Expr) (trs : List (TE × TE)) : Prop :=
  ∀ (pins : List (Addr × Obj)) (s : Shared) (σ : St) (H : Hp) (Q : List (V × V) → Hp → Prop), Inv X pins σ H s → tPairs trs σ H Q →
    wpAny (model X.prog X.w) X.A (evalPairs (pairTrees keys values X.env pos)) (fun vs s' => ∃ ps H', Inv X pins σ H' s' ∧ VV ps vs ∧ Q ps H') X.xe s
def mergeK (kvs more : List (Key × V)) : List (Key × V) := more.foldl (fun acc kv => putK acc kv.1 kv.2) kvs
theorem KV.merge : ∀ {more : List (Key × V)} {rs : List (Key × Value)} {kvs : List (Key × V)} {vs : List (Key × Value)}, KV more rs → KV kvs vs → KV (mergeK kvs more) (merged vs rs) := by
  intro more rs kvs vs r
  unfold KV at r
  induction r generalizing kvs vs with
  | nil => intro q; exact q
  | @cons p q ps qs h t ih =>
    intro r0
    have e : KV (putK kvs p.1 p.2) (stored vs q.1 q.2) := by
      have := r0.put p.1 h.2
      rw [← h.1]; exact this
    exact ih e
/-- {k: v, ..} with keys ints and texts; the new dict stands empty while the pairs are made -/
def tDisp (trs : List (TE × TE)) : TE := fun σ H Q => ∀ p, H p = none → tPairs trs σ (upd H p (.dK [])) fun ps H2 => H2 p = some (.dK []) ∧ ∃ kvs : List (Key × V), ps = kvs.map (fun kv => (kV kv.1, kv.2)) ∧ kvs.length ≤ 15 ∧ Q (.ref p) (upd H2 p (.dK (mergeK [] kvs)))
/-- a method call o.m(e) of a built-in, with one argument: what must be seen of the text -/
structure M1 (X : Cx) (o : Expr) (m : Str) (apos : Pos) (e : Expr) (cpos : Pos) : Prop where
  base : attributeBase o m X.env (eval o X.env) = eval o X.env
  few : ((backTo cpos (starEach [e] X.env)).all (fun x => !x.1) && (backToKw cpos (keywordEach [] X.env)).all (fun x => x.1.isSome)
    && decide (([e] : List Expr).length + ([] : List Keyword).length + (if ([] : List Keyword).isEmpty then 0 else 1) < 30)) = true
  line : (apos.endLine == cpos.line) = true
  trees : backTo cpos (starEach [e] X.env) = [(false, eval e X.env)]
structure M2 (X : Cx) (o : Expr) (m : Str) (apos : Pos) (e f : Expr) (cpos : Pos) : Prop where
  base : attributeBase o m X.env (eval o X.env) = eval o X.env
  few : ((backTo cpos (starEach [e, f] X.env)).all (fun x => !x.1) && (backToKw cpos (keywordEach [] X.env)).all (fun x => x.1.isSome)
    && decide (([e, f] : List Expr).length + ([] : List Keyword).length + (if ([] : List Keyword).isEmpty then 0 else 1) < 30)) = true
  line : (apos.endLine == cpos.line) = true
  trees : backTo cpos (starEach [e, f] X.env) = [(false, eval e X.env), (false, eval f X.env)]
/-- a is a dict, whatever its keys -/
def IsD (H : Hp) (a : Addr) : Prop := (∃ kvs, Rd H a (.dK kvs)) ∨ ∃ kvs, Rd H a (.dT kvs)
section
variable {X : Cx} {pins : List (Addr × Obj)} {σ : St} {H : Hp} {s : Shared} {a : Addr} {y d : V} {u r : Value} {o : Option V} {A : Around} {E : Value → Shared → Prop}
end
def tDGet1 (td ty : TE) : TE := fun σ H Q => td σ H fun x H1 => ∃ a, x = .ref a ∧ IsD H1 a ∧ ty σ H1 fun y H2 => ∃ o, DGet H2 a y o ∧ Q (o.getD .non) H2
def tDGet2 (td ty tx : TE) : TE := fun σ H Q => td σ H fun x H1 => ∃ a, x = .ref a ∧ IsD H1 a ∧ ty σ H1 fun y H2 => tx σ H2 fun z H3 => ∃ o, DGet H3 a y o ∧ Q (o.getD z) H3
/-- d.pop(k): there; d.pop(k, x): there or not -/
def tDPop1 (td ty : TE) : TE := fun σ H Q => td σ H fun x H1 => ∃ a, x = .ref a ∧ IsD H1 a ∧ ty σ H1 fun y H2 => ∃ kvs k v, H2 a = some (.dK kvs) ∧ y = kV k ∧ valV kvs k = some v ∧ Q v (upd H2 a (.dK (dropK kvs k)))
def tDPop2 (td ty tx : TE) : TE := fun σ H Q => td σ H fun x H1 => ∃ a, x = .ref a ∧ IsD H1 a ∧ ty σ H1 fun y H2 => tx σ H2 fun z H3 => ∃ kvs k, H3 a = some (.dK kvs) ∧ y = kV k ∧
  (∀ v, valV kvs k = some v → Q v (upd H3 a (.dK (dropK kvs k)))) ∧ (valV kvs k = none → Q z H3)
section
variable {X : Cx} {o e f : Expr} {apos cpos : Pos} {td ty tx : TE}
end
section
variable {X : Cx} {pins : List (Addr × Obj)} {σ : St} {H : Hp} {s : Shared} {a : Addr} {kvs : List (Key × V)} {A : Around} {E : Value → Shared → Prop}
end
section
variable {X : Cx} {pins : List (Addr × Obj)} {σ : St} {H : Hp} {s : Shared} {a : Addr} {y : V} {u : Value} {A : Around} {E : Value → Shared → Prop}
end
end L2
namespace L2
open PySem PySem.Spec PyProof.Rows
section
variable {prog : Program} {w : World} {A : Around} {E : Value → Shared → Prop}
end
section
variable {X : Cx}
end
end L2
namespace L2
open PySem PySem.Spec PyProof.Rows
theorem boot_reversed5 : bootBuiltins "reversed" = some (.type "reversed") := by decide +kernel
section
variable {X : Cx} {pins : List (Addr × Obj)} {σ : St} {H : Hp} {s : Shared} {h' : Heap}
/-- several records of ours have turned -/
theorem Inv.turnedL {t' : Nat} {ch : List Addr} (I : Inv X pins σ H s) (k : ∀ b o, b ∉ ch → s.heap.get? b = some o → h'.get? b = some o) (hf : ∀ b ∈ ch, FpOk X pins H b) : Inv X pins σ H { s with heap := h', toks := t' } := by
  have nit : ∀ b u, H b = some u → b ∉ ch := fun b u e z => by
    have q := (hf b z).1
    rw [q] at e; cases e
  refine I.step (g' := s.gens) (d' := s.drawn) (ch := ch) (fun b hb => ⟨(hf b hb).2.2.2.1, (hf b hb).2.1, (hf b hb).2.2.2.2.1, (hf b hb).2.2.2.2.2⟩) (fun b o _ _ hc e _ => k b o hc e) (fun b o _ _ hc e _ => ⟨o.slots, k b o hc e⟩)
    (fun _ _ _ _ n => n) (fun b o hc e => ⟨o, k b o hc e⟩) (fun _ _ e => e) (fun _ _ _ e => e) (fun b ps e => ⟨#[], by rw [e]; simp⟩) (fun m hm => ?_) (fun b u e => ?_) I.bare
  · obtain ⟨o, es, ep, ho, r⟩ := hm
    exact ⟨o, es, ep, k _ o (fun z => (hf _ z).2.1 rfl) ho, r⟩
  · refine (I.hok b u e).stay (fun c v hc q => k c v ?_ q) (fun _ q => q) fun _ _ q => q
    rcases hc with z | z
    · rw [z]; exact nit b u e
    · exact nit c _ z
/-- .. and one new object is laid -/
theorem Inv.turnedNew {t' : Nat} {ch : List Addr} {T : Addr} {ob : HO} (I : Inv X pins σ H s) (k : ∀ b o, b ∉ ch → s.heap.get? b = some o → h'.get? b = some o) (hf : ∀ b ∈ ch, FpOk X pins H b) (hT : s.heap.objs.size ≤ T)
    (new : ObjOk X.prog X.w (upd H T ob) h' T ob) : Inv X pins σ (upd H T ob) { s with heap := h', toks := t' } := by
  have hn : H T = none := I.hok.fresh hT
  have nit : ∀ b u, H b = some u → b ∉ ch := fun b u e z => by
    have q := (hf b z).1
    rw [q] at e; cases e
  refine I.step (g' := s.gens) (d' := s.drawn) (ch := ch) (fun b hb => ⟨(hf b hb).2.2.2.1, (hf b hb).2.1, (hf b hb).2.2.2.2.1, (hf b hb).2.2.2.2.2⟩) (fun b o _ _ hc e _ => k b o hc e) (fun b o _ _ hc e _ => ⟨o.slots, k b o hc e⟩)
    (fun b o _ e n => ?_) (fun b o hc e => ⟨o, k b o hc e⟩) (fun b xs e => ?_) (fun b o u e => ?_) (fun b ps e => ⟨#[], ?_⟩) (fun m hm => ?_) (fun b u e => ?_) I.bare
  · rw [upd_ne (Nat.ne_of_lt (Nat.lt_of_lt_of_le (Heap.lt_size e) hT))]; exact n
  · rw [upd_ne (ne_of_none e hn)]; exact e
  · rw [upd_ne (ne_of_none e hn)]; exact e
  · rw [upd_ne (ne_of_none e hn), e]; simp
  · obtain ⟨o, es, ep, ho, r⟩ := hm
    exact ⟨o, es, ep, k _ o (fun z => (hf _ z).2.1 rfl) ho, r⟩
  · by_cases hb : b = T
    · subst hb
      rw [upd_same] at e
      cases e
      exact new
    · rw [upd_ne hb] at e
      refine (I.hok b u e).stay (fun c v hc q => k c v ?_ q) (fun c q => by rw [upd_ne (ne_of_none q hn)]; exact q) fun c xs q => by rw [upd_ne (ne_of_none q hn)]; exact q
      rcases hc with z | z
      · rw [z]; exact nit b u e
      · exact nit c _ z
end
/-- the statement runs while the thing at d is locked (read, not written); d and what stands there are the reading's choice -/
def tLock (t : TS) : TS := fun D σ H => ∃ d u, H d = some u ∧ Mut (some u) ∧ ∀ od, t ⟨fun σ' H' => H' d = some (.frz od u) ∧ D.nx σ' (upd H' d u), fun v H' => H' d = some (.frz od u) ∧ D.rt v (upd H' d u), fun σ' H' => H' d = some (.frz od u) ∧ D.bk σ' (upd H' d u), fun σ' H' => H' d = some (.frz od u) ∧ D.ct σ' (upd H' d u)⟩ σ (upd H d (.frz od u))
def tLockE (t : TE) : TE := fun σ H Q => ∃ d u, H d = some u ∧ Mut (some u) ∧ ∀ od, t σ (upd H d (.frz od u)) fun v H' => H' d = some (.frz od u) ∧ Q v (upd H' d u)
section
variable {X : Cx}
theorem pi_one {tg : Expr} {pins : List (Addr × Obj)} {σ : St} {H : Hp} {s : Shared} {R : It → Hp → Prop} {J : It} {tn : Nat → Heap → Prop} {tk : Nat} (I : Inv X pins σ H s) (o : Obj)
    (T : Turn X.prog X.w X.K tg J [s.heap.objs.size] s.heap.objs.size tn) (st : tn 0 (s.heap.push o)) (q : R J H) : PIE X pins σ tg R (.ref s.heap.objs.size) { s with heap := s.heap.push o, toks := tk } := by
  refine ⟨s.heap.objs.size, [s.heap.objs.size], tn, J, H, rfl, I.kept fun b ob e => Heap.get?_push_of_some _ e, T, st, fun b hb => ?_, q⟩
  have e : b = s.heap.objs.size := by simpa using hb
  subst e
  exact I.fpOk (Nat.le_refl _) (I.hok.fresh (Nat.le_refl _))
end
/-- lo, lo + c, .. (n of them) -/
def Itc (lo c : Int) (n : Nat) : It := ⟨fun i _ => i < n, fun i H x H' => H' = H ∧ x = .int (lo + (i : Nat) * c), fun i _ => n ≤ i⟩
/-- range(i, j, c): small bounds, n items -/
def RgC (i j c : Int) (n : Nat) : Prop := c ≠ 0 ∧ c.natAbs < 1073741824 ∧ Builtin.Range.small i j c = true ∧ Builtin.Range.rangeSize i j c = n
theorem RgC.neg {i j : Int} (ha : -(2 ^ 62) ≤ i) (ha' : i < 2 ^ 62) (hb : -(2 ^ 62) ≤ j) (hb' : j < 2 ^ 62) : RgC i j (-1) (i - j).toNat :=
  ⟨by decide, by decide, PySem.W.small_down ha ha' hb hb', PySem.W.rangeSize_downNat i j⟩
def iRng3 (ta : TA) : TI := fun σ H R => ta σ H fun vs H1 => ∃ (i j c : Int) (n : Nat), vs = [.int i, .int j, .int c] ∧ RgC i j c n ∧ R (Itc i c n) H1
section
variable {X : Cx} {tg : Expr}
end
/-- the list at a (n items at the start, which the loop leaves there), from its end -/
def Itv (K : PySem.W.Frag) (a : Addr) (n : Nat) : It :=
  ⟨fun i H => i < n ∧ ∃ (xs : List V) (x : V), SqL K H a xs ∧ xs[n - 1 - i]? = some x, fun i H x H' => H' = H ∧ ∀ xs, SqL K H a xs → xs[n - 1 - i]? = some x, fun i _ => n ≤ i⟩
def iRev (K : PySem.W.Frag) (ta : TA) : TI := fun σ H R => ta σ H fun vs H1 => ∃ (a : Addr) (xs : List V), vs = [.ref a] ∧ SqL K H1 a xs ∧ R (Itv K a xs.length) H1
section
variable {X : Cx} {tg : Expr}
end
def Its (x : Str) : It := ⟨fun i _ => i < x.cps.size, fun i H v H' => H' = H ∧ ∃ c, x.cps[i]? = some c ∧ v = .str ⟨#[c]⟩, fun i _ => x.cps.size ≤ i⟩
theorem turn_str {P : Program} {w : World} {K : PySem.W.Frag} {tg : Expr} (it : Addr) (x : Str) (t : Tok) (ty : String) (hty : ty = "str_ascii_iterator" ∨ ty = "str_iterator") :
    Turn P w K tg (Its x) [it] it (fun i h => h.IsStrIter it ty x t i) where
  mem := by simp
  obj := fun i h st b hb => by
    have e : b = it := by simpa using hb
    subst e
    obtain ⟨o, e, c, d⟩ := st
    exact ⟨o, e, fun v z => by rw [d] at z; cases z⟩
  keep := fun i h h' st k => let ⟨o, ho, r⟩ := st; ⟨o, k it (by simp) o ho, r⟩
  item := by
    intro X hP hw hK hc i pins s σ H E I hf st hg
    subst hP hw hK
    obtain ⟨f0, f1, f2, f3, f4, f5⟩ := hf it (by simp)
    have W : Walks X.prog X.w X.A it [it] [it] x.cps.size (SignAt x) (fun i h => h.IsStrIter it ty x t i) := by
      rcases hty with e | e
      · rw [e]; exact Walks.strAscii (I.ok.hd hc) it x t
      · rw [e]; exact Walks.strWide (I.ok.hd hc) it x t
    have hno : ["enumerate", "zip", "dict_itemiterator", "dict_reverseitemiterator", "odict_iterator", "itertools.zip_longest", "itertools.pairwise"].contains ty = false := by
      rcases hty with e | e
      · rw [e]; decide
      · rw [e]; decide
    refine W.item i s _ _ hg st fun v h' tk hv st' kk => ?_
    obtain ⟨c, u, hcx, rfl⟩ := hv
    have I1 : Inv X pins σ H { s with heap := h', toks := tk } := I.turned (fun b o hb e => kk b o (by simpa using hb) e) f0 f1 f3 f4 f5
    obtain ⟨oi, e, cc, dd⟩ := id st'
    exact ⟨_, rfl, go_of (s := { s with heap := h', toks := tk }) e cc dd hno ⟨.str ⟨#[c]⟩, H, I1, ⟨u, rfl⟩, ⟨rfl, c, hcx, rfl⟩, st', fun b hb => (hf b hb).1⟩⟩
  done := by
    intro X hP hw hK hc i pins s σ H E I hf st hg
    subst hP hw hK
    obtain ⟨f0, f1, f2, f3, f4, f5⟩ := hf it (by simp)
    have hx : x.cps[i]? = none := Array.getElem?_eq_none hg
    rcases hty with e | e
    · rw [e] at st
      exact wpAny_pyNext_ascii_end (I.ok.hd hc) st hx fun h' eb => ⟨rfl, I.turned (t' := s.toks) (fun b o hb e => eb b o hb e) f0 f1 f3 f4 f5⟩
    · rw [e] at st
      exact wpAny_pyNext_wide_end (I.ok.hd hc) st hx fun h' eb => ⟨rfl, I.turned (t' := s.toks) (fun b o hb e => eb b o hb e) f0 f1 f3 f4 f5⟩
  self := fun A i s Q E st h => by
    rcases hty with e | e
    · rw [e] at st; exact wpAny_pyIter_striter_ascii st h
    · rw [e] at st; exact wpAny_pyIter_striter_wide st h
def iStr (te : TE) : TI := fun σ H R => te σ H fun v H1 => ∃ x, v = .str x ∧ R (Its x) H1
theorem pi_str {X : Cx} {tg e : Expr} {te : TE} (he : PE X e te) : PI X tg e (iStr te) := by
  intro pins s σ H R I h
  refine thn (he pins s σ H _ I h) fun v s1 ⟨y, H1, I1, r1, x, ex, q⟩ => ?_
  subst ex
  obtain ⟨t, rfl⟩ := r1
  cases ha : x.cps.all (· < 128)
  · exact wpAny_pyIter_wide ha (pi_one (tk := s1.toks) I1 _ (turn_str _ x t "str_iterator" (.inr rfl)) ⟨_, Heap.get?_push_size _ rfl, rfl, rfl⟩ q)
  · exact wpAny_pyIter_ascii ha (pi_one (tk := s1.toks) I1 _ (turn_str _ x t "str_ascii_iterator" (.inl rfl)) ⟨_, Heap.get?_push_size _ rfl, rfl, rfl⟩ q)
section
variable {prog : Program} {w : World} {A : Around} {E : Value → Shared → Prop} {s : Shared}
end
section
variable {X : Cx} {pins : List (Addr × Obj)} {σ : St} {H : Hp} {s : Shared} {d : Addr} {o : Obj}
end
/-- the keys of the locked dict at d, in their order -/
def Itk (d : Addr) (o : Obj) (kvs : List (Key × V)) : It :=
  ⟨fun i H => H d = some (.frz o (.dK kvs)) ∧ i < kvs.length, fun i H x H' => H' = H ∧ ∃ k v, kvs[i]? = some (k, v) ∧ x = kV k, fun i H => H d = some (.frz o (.dK kvs)) ∧ kvs.length ≤ i⟩
/-- .. of tuple keys: the key's own tuple -/
def Itkt (d : Addr) (o : Obj) (kvs : List (List Key × V)) : It :=
  ⟨fun i H => H d = some (.frz o (.dT kvs)) ∧ i < kvs.length, fun i H x H' => H' = H ∧ ∃ (k : List Key) (v : V) (q : Addr), kvs[i]? = some (k, v) ∧ x = .ref q ∧ H q = some (.tup (k.map kV)), fun i H => H d = some (.frz o (.dT kvs)) ∧ kvs.length ≤ i⟩
/-- the values -/
def Itd (d : Addr) (o : Obj) (kvs : List (Key × V)) : It :=
  ⟨fun i H => H d = some (.frz o (.dK kvs)) ∧ i < kvs.length, fun i H x H' => H' = H ∧ ∃ k, kvs[i]? = some (k, x), fun i H => H d = some (.frz o (.dK kvs)) ∧ kvs.length ≤ i⟩
/-- the pairs, each a new tuple -/
def Iti (d : Addr) (o : Obj) (kvs : List (Key × V)) : It :=
  ⟨fun i H => H d = some (.frz o (.dK kvs)) ∧ i < kvs.length, fun i H x H' => ∃ T k v, kvs[i]? = some (k, v) ∧ x = .ref T ∧ H T = none ∧ H' = upd H T (.tup [kV k, v]), fun i H => H d = some (.frz o (.dK kvs)) ∧ kvs.length ≤ i⟩
section
variable {P : Program} {w : World} {K : PySem.W.Frag} {tg : Expr} {d : Addr} {o : Obj} {es : Array DictEntry} {ep : Nat}
end
/-- the dict is locked (tLock, or by the caller) -/
def iKeys (td : TE) : TI := fun σ H R => td σ H fun x H1 => ∃ d o, x = .ref d ∧ ((∃ kvs, H1 d = some (.frz o (.dK kvs)) ∧ R (Itk d o kvs) H1) ∨ ∃ kvs, H1 d = some (.frz o (.dT kvs)) ∧ R (Itkt d o kvs) H1)
def iVals (td : TE) : TI := fun σ H R => td σ H fun x H1 => ∃ d o kvs, x = .ref d ∧ H1 d = some (.frz o (.dK kvs)) ∧ R (Itd d o kvs) H1
def iItems (td : TE) : TI := fun σ H R => td σ H fun x H1 => ∃ d o kvs, x = .ref d ∧ H1 d = some (.frz o (.dK kvs)) ∧ R (Iti d o kvs) H1
def iKeysM (td : TE) : TI := fun σ H R => td σ H fun x H1 => ∃ d o kvs, x = .ref d ∧ H1 d = some (.frz o (.dK kvs)) ∧ R (Itk d o kvs) H1
section
variable {X : Cx} {tg e : Expr} {td : TE} {apos cpos : Pos}
end
/-- the list at a as it stands at each turn, each item in a new pair -/
def Ite (K : PySem.W.Frag) (a : Addr) : It :=
  ⟨fun i H => ∃ (xs : List V) (x : V), SqL K H a xs ∧ xs[i]? = some x, fun i H v H' => ∃ T x, v = .ref T ∧ H T = none ∧ H' = upd H T (.tup [.int (i : Nat), x]) ∧ ∀ xs, SqL K H a xs → xs[i]? = some x, fun i H => ∃ xs : List V, SqL K H a xs ∧ xs.length ≤ i⟩
def iEnum (K : PySem.W.Frag) (ta : TA) : TI := fun σ H R => ta σ H fun vs H1 => ∃ a xs, vs = [.ref a] ∧ SqL K H1 a xs ∧ R (Ite K a) H1
theorem boot_zip5 : bootBuiltins "zip" = some (.type "zip") := by decide +kernel
/-- the lists at a and b as they stand at each turn, the items in new pairs -/
def Itz (K : PySem.W.Frag) (a b : Addr) : It :=
  ⟨fun i H => ∃ (xs ys : List V) (x y : V), SqL K H a xs ∧ SqL K H b ys ∧ xs[i]? = some x ∧ ys[i]? = some y,
    fun i H v H' => ∃ T x y, v = .ref T ∧ H T = none ∧ H' = upd H T (.tup [x, y]) ∧ (∀ xs, SqL K H a xs → xs[i]? = some x) ∧ ∀ ys, SqL K H b ys → ys[i]? = some y,
    fun i H => ∃ xs ys : List V, SqL K H a xs ∧ SqL K H b ys ∧ (xs.length ≤ i ∨ ys.length ≤ i)⟩
theorem turn_zip {P : Program} {w : World} {K : PySem.W.Frag} {elts : List Expr} {kk : Nat} {tpos : Pos} {a b z TI TO i1 i2 : Addr} (D : ZipApart z TI TO i1 i2 a b) :
    Turn P w K (.Tuple elts kk tpos) (Itz K a b) [z, TI, TO, i1, i2] z (fun i h => IsZip h z TI TO .none ∧ IsPair h TI (.ref i1) (.ref i2) ∧ (∃ x y, IsPair h TO x y) ∧ h.IsListIter i1 a i ∧ h.IsListIter i2 b i) where
  mem := by simp
  obj := fun i h st c hc => by
    obtain ⟨hz, hTI, ⟨x, y, hTO⟩, ⟨o1, e1, _, d1⟩, ⟨o2, e2, _, d2⟩⟩ := st
    have e' : c = z ∨ c = TI ∨ c = TO ∨ c = i1 ∨ c = i2 := by simpa using hc
    rcases e' with q | q | q | q | q
    · rw [q]; exact ⟨_, hz, fun v q => nomatch q⟩
    · rw [q]; exact ⟨_, hTI, fun v q => nomatch q⟩
    · rw [q]; exact ⟨_, hTO, fun v q => nomatch q⟩
    · rw [q]; exact ⟨o1, e1, fun v q => by rw [d1] at q; cases q⟩
    · rw [q]; exact ⟨o2, e2, fun v q => by rw [d2] at q; cases q⟩
  keep := fun i h h' st k => by
    obtain ⟨hz, hTI, ⟨x, y, hTO⟩, h1, h2⟩ := st
    exact ⟨k z (by simp) _ hz, k TI (by simp) _ hTI, ⟨x, y, k TO (by simp) _ hTO⟩, h1.at fun o q => k i1 (by simp) o q, h2.at fun o q => k i2 (by simp) o q⟩
  item := by
    intro X hP hw hK hc i pins s σ H E I hf st hg
    subst hP hw hK
    obtain ⟨hz, hTI, ⟨x0, y0, hTO⟩, h1, h2⟩ := st
    obtain ⟨xs, ys, x, y, hqx, hqy, hx, hy⟩ := hg
    obtain ⟨its, rv, p, _⟩ := I.list hqx
    obtain ⟨its2, rv2, p2, _⟩ := I.list hqy
    obtain ⟨u, hu, ru⟩ := rv.get hx
    obtain ⟨u2, hu2, ru2⟩ := rv2.get hy
    have hzl : z < s.heap.objs.size := Heap.lt_size hz
    refine wpAny_pyNext_zip_item D hz hTI hTO h1 h2 p.isList p2.isList (x := u) (y := u2) (by simpa using hu) (by simpa using hu2) fun h' z' TO' h1' h2' hT hsz hk => ?_
    refine ⟨_, rfl, wpAny_letOwnedTupleGo_zip (s := { s with heap := h' }) z' fun h'' z'' sb => ?_⟩
    have hT2 : h''.get? s.heap.objs.size = some { cls := .type "tuple", data := .seq #[u, u2] } := (sb.2 _ (Nat.ne_of_gt hzl)).trans hT
    have new : ObjOk X.prog X.w (upd H s.heap.objs.size (.tup [x, y])) h'' s.heap.objs.size (.tup [x, y]) :=
      ⟨by show 2 ≤ sizeLine; decide, [u, u2], .cons ru (.cons ru2 .nil), ⟨_, hT2, rfl, _, rfl⟩⟩
    have I1 : Inv X pins σ (upd H s.heap.objs.size (.tup [x, y])) { s with heap := h'' } :=
      I.turnedNew (t' := s.toks) (ch := [z, TI, TO, i1, i2]) (fun c o hb q => (sb.2 c (fun q' => hb (by simp [q']))).trans (hk c o (fun q' => hb (by simp [q'])) (fun q' => hb (by simp [q'])) (fun q' => hb (by simp [q'])) (fun q' => hb (by simp [q'])) q)) hf (Nat.le_refl _) new
    refine ⟨.ref s.heap.objs.size, _, I1, rfl, ⟨_, x, y, rfl, I.hok.fresh (Nat.le_refl _), rfl, fun l hl => by rw [I.list_inj hl hqx]; exact hx, fun l hl => by rw [I.list_inj hl hqy]; exact hy⟩, ⟨z'', ?_, ⟨u, u2, ?_⟩, ?_, ?_⟩, fun c hcm => ?_⟩
    · exact (sb.2 _ D.TIz).trans (hk _ _ D.TIz D.TITO D.TIi1 D.TIi2 hTI)
    · exact (sb.2 _ D.TOz).trans TO'
    · exact h1'.at fun o q => (sb.2 _ D.i1z).trans q
    · exact h2'.at fun o q => (sb.2 _ D.i2z).trans q
    · have hlt : c < s.heap.objs.size := by
        have e' : c = z ∨ c = TI ∨ c = TO ∨ c = i1 ∨ c = i2 := by simpa using hcm
        rcases e' with q | q | q | q | q
        · rw [q]; exact hzl
        · rw [q]; exact Heap.lt_size hTI
        · rw [q]; exact Heap.lt_size hTO
        · rw [q]; obtain ⟨_, e1, _⟩ := h1; exact Heap.lt_size e1
        · rw [q]; obtain ⟨_, e2, _⟩ := h2; exact Heap.lt_size e2
      rw [upd_ne (Nat.ne_of_lt hlt)]
      exact (hf c hcm).1
  done := by
    intro X hP hw hK hc i pins s σ H E I hf st hg
    subst hP hw hK
    obtain ⟨hz, hTI, ⟨x0, y0, hTO⟩, h1, h2⟩ := st
    obtain ⟨xs, ys, hqx, hqy, hend⟩ := hg
    obtain ⟨its, rv, p, _⟩ := I.list hqx
    obtain ⟨its2, rv2, p2, _⟩ := I.list hqy
    have l1 := rv.length
    have l2 := rv2.length
    have he : its.toArray[i]? = none ∨ its2.toArray[i]? = none := by
      rcases hend with q | q
      · exact .inl (by simp; omega)
      · exact .inr (by simp; omega)
    exact wpAny_pyNext_zip_end (I.ok.hd hc) D hz hTI hTO h1 h2 p.isList p2.isList he fun h' hk => ⟨rfl, I.turnedL (t' := s.toks) (ch := [z, TI, TO, i1, i2]) (fun c o hb q =>
      hk c o (fun q' => hb (by simp [q'])) (fun q' => hb (by simp [q'])) (fun q' => hb (by simp [q'])) (fun q' => hb (by simp [q'])) q) hf⟩
  self := fun A i s Q E st h => wpAny_pyIter_zip st.1 h
def iZip (K : PySem.W.Frag) (ta : TA) : TI := fun σ H R => ta σ H fun vs H1 => ∃ a b xs ys, vs = [.ref a, .ref b] ∧ SqL K H1 a xs ∧ SqL K H1 b ys ∧ R (Itz K a b) H1
theorem pi_zip {X : Cx} {e e2 : Expr} {ta : TA} {p pos tpos : Pos} {elts : List Expr} {kk : Nat} (hg : Gl X "zip") (hm : X.mg "zip" = none) (ha : PA X [e, e2] ta)
    (hs : starEach [e, e2] X.env = (false, eval e X.env) :: starEach [e2] X.env := by rfl) (hpl : (backTo pos (starEach [e2] X.env)).any (·.1) = false := by rfl) :
    PI X (.Tuple elts kk tpos) (.Call (.Name "zip" p) [e, e2] [] pos) (iZip X.K ta) := by
  intro pins s σ H R I h
  refine Call_ (ld_blt I hg hm boot_zip5 (PyProof.Rows.callWith_type1 (thn (ha pos pins s σ H _ I h) fun us s1 ⟨vs, H1, I1, r1, q1⟩ => ?_) hs hpl))
  obtain ⟨a, b, xs, ys, ex, hqx, hqy, q⟩ := q1
  subst ex
  cases r1 with
  | cons r rr =>
    cases rr with
    | cons r' rr =>
      cases rr
      cases r
      cases r'
      obtain ⟨its, rv, p1, _⟩ := I1.list hqx
      obtain ⟨its2, rv2, p2, _⟩ := I1.list hqy
      have la : a < s1.heap.objs.size := p1.lt
      have lb : b < s1.heap.objs.size := p2.lt
      refine call_zip_2 p1.isList p2.isList fun h' hz hTI hTO h1 h2 hsz hk => wpAny_pyIter_zip hz ?_
      have I2 : Inv X pins σ H1 { s1 with heap := h' } := I1.kept (t' := s1.toks) hk
      refine ⟨s1.heap.objs.size + 4, [s1.heap.objs.size + 4, s1.heap.objs.size + 2, s1.heap.objs.size + 3, s1.heap.objs.size, s1.heap.objs.size + 1], _, _, H1, rfl, I2, turn_zip (PySem.W.ktu_apart s1.heap.objs.size a b la lb), ⟨hz, hTI, ⟨_, _, hTO⟩, h1, h2⟩, fun c hcm => ?_, q⟩
      have e' : c = s1.heap.objs.size + 4 ∨ c = s1.heap.objs.size + 2 ∨ c = s1.heap.objs.size + 3 ∨ c = s1.heap.objs.size ∨ c = s1.heap.objs.size + 1 := by simpa using hcm
      have hle : s1.heap.objs.size ≤ c := by
        rcases e' with z | z | z | z | z
        · rw [z]; exact Nat.le_add_right _ _
        · rw [z]; exact Nat.le_add_right _ _
        · rw [z]; exact Nat.le_add_right _ _
        · rw [z]; exact Nat.le_refl _
        · rw [z]; exact Nat.le_add_right _ _
      exact I1.fpOk hle (I1.hok.fresh hle)
end L2
section 
namespace Bits
open PySem PyProof.Rows
end Bits
end 
section 
namespace TL
open PySem PySem.Builtin PySem.Builtin.Str PySem.StrLaws
abbrev tl (x : Str) : List Nat := x.cps.toList
/-- S stands at the head of l -/
def pre (S l : List Nat) : Bool := l.take S.length == S
/-- l cut at each S from the left; k signs are still to be passed over -/
def spl (S : List Nat) : Nat → List Nat → List Nat → List (List Nat)
  | _, acc, [] => [acc]
  | 0, acc, c :: r => if pre S (c :: r) = true then acc :: spl S (S.length - 1) [] r else spl S 0 (acc ++ [c]) r
  | k + 1, acc, _ :: r => spl S k acc r
/-- what stands before the first S, and behind it -/
def par (S : List Nat) : List Nat → List Nat → Option (List Nat × List Nat)
  | _, [] => none
  | acc, c :: r => if pre S (c :: r) = true then some (acc, (c :: r).drop S.length) else par S (acc ++ [c]) r
/-- joined lists -/
def joinL (S : List Nat) : List (List Nat) → List Nat
  | [] => []
  | [p] => p
  | p :: q :: r => p ++ (S ++ joinL S (q :: r))
theorem join_eq (y : Str) (parts : List Str) : Txt.join y parts = Str.join y parts := glued_eq_join y parts
/-- the signs of a number -/
def numL (n : Nat) : List Nat := (Nat.toDigits 10 n).map Char.toNat
def wstep (st : List (List Nat) × List Nat) (c : Nat) : List (List Nat) × List Nat :=
  if Unicode.isSpace c = true then (if st.2 = [] then st else (st.1 ++ [st.2], [])) else (st.1, st.2 ++ [c])
def wfin (st : List (List Nat) × List Nat) : List (List Nat) := if st.2 = [] then st.1 else st.1 ++ [st.2]
end TL
end 
namespace L2
open PySem PySem.Spec PyProof.Rows
theorem strs_of_vals : ∀ {ys : List Str} {us : List Value}, Vals (ys.map V.str) us → StrsAre us ys
  | [], _, .nil => .nil
  | y :: ys, _, .cons r t => by
    obtain ⟨k, rfl⟩ := r
    exact .cons y k (strs_of_vals t)
/-- a new list of texts, tracked -/
def rNewStrs (ys : List Str) : Hp → VK → Prop := fun H Q => ∀ p, H p = none → Q (.ref p) (upd H p (.lst (ys.map V.str)))
section
variable {X : Cx} {pins : List (Addr × Obj)} {σ : St} {H : Hp} {s : Shared} {Q : VK}
end
section
variable {X : Cx}
/-- sep.join(a list | a tuple of texts) -/
theorem mt_join : MtR X "str.join" (fun x xs H Q => ∃ a p, ∃ ys : List Str, x = .str a ∧ xs = [.ref p] ∧ (SqL X.K H p (ys.map V.str) ∨ SqT X.K H p (ys.map V.str)) ∧
    (ys.map (·.length)).sum + ys.length * a.length ≤ 16777216 ∧ Q (.str (Txt.join a ys)) H) := by
  intro pins s σ H x xs v us Q I rx rs h
  obtain ⟨a, p, ys, rfl, rfl, hp, hz, h⟩ := h
  obtain ⟨t, rfl⟩ := rx
  cases rs with
  | cons r1 rs =>
    cases rs
    cases r1
    rcases hp with hp | hp
    · obtain ⟨its, r, ⟨o, n, ho, hc, _, hd⟩, _⟩ := I.list hp
      exact PyProof.Rows.join_list (items := its.toArray) ⟨o, ho, hc, n, hd⟩ (by rw [List.toList_toArray]; exact strs_of_vals r) hz fun t' k => ⟨.str _, H, I.tok k, ⟨t', rfl⟩, h⟩
    · obtain ⟨its, r, ht, _⟩ := I.tuple hp
      exact PyProof.Rows.join_tuple (items := its.toArray) ht (by rw [List.toList_toArray]; exact strs_of_vals r) hz fun t' k => ⟨.str _, H, I.tok k, ⟨t', rfl⟩, h⟩
end
section
variable {X : Cx} {o e : Expr} {to te : TE}
def tM0 (r : V → List V → Hp → VK → Prop) (to : TE) : TE := fun σ H Q => to σ H fun x H1 => (∃ a, x = .str a) ∧ r x [] H1 Q
def tM1 (r : V → List V → Hp → VK → Prop) (to te : TE) : TE := fun σ H Q => to σ H fun x H1 => (∃ a, x = .str a) ∧ te σ H1 fun y H2 => r x [y] H2 Q
theorem pe_m1 {id : String} {name : Str} {apos pos : Pos} {r : V → List V → Hp → VK → Prop} (slot : Slot "str" name id) (ty : typeOf (.builtin id) = pure (.type "method_descriptor")) (rule : MtR X id r) (ho : PE X o to) (he : PE X e te)
    (hs : starEach [e] X.env = [(false, eval e X.env)] := by rfl) (hbase : attributeBase o name X.env (eval o X.env) = eval o X.env := by rfl) (hline : (apos.endLine == pos.line) = true := by rfl) :
    PE X (.Call (.Attribute o name apos) [e] [] pos) (tM1 r to te) := by
  intro pins s σ H Q I h
  refine PySem.Call_method1 hbase hs hline (thn (ho pins s σ H _ I h) fun v s1 ⟨x, H1, I1, r1, q1⟩ => ?_)
  obtain ⟨⟨a, rfl⟩, q1⟩ := q1
  obtain ⟨t, rfl⟩ := _root_.id r1
  refine ⟨"str", _, F.plainAttrs_str, slot, ty, typeIs_str _ _ _, (fun _ e => nomatch e), Calls.callWith_builtin rfl (Calls.evalArgs_plain (Calls.spliced_cons ?_))⟩
  exact thn (he pins s1 σ H1 _ I1 q1) fun u s2 ⟨y, H2, I2, r2, q2⟩ => Calls.spliced_nil (rule pins s2 σ H2 _ [y] _ [u] Q I2 r1 (.cons r2 .nil) q2)
theorem pe_join {apos pos : Pos} (ho : PE X o to) (he : PE X e te) (hs : starEach [e] X.env = [(false, eval e X.env)] := by rfl) (hbase : attributeBase o "join" X.env (eval o X.env) = eval o X.env := by rfl) (hline : (apos.endLine == pos.line) = true := by rfl) :
    PE X (.Call (.Attribute o "join" apos) [e] [] pos) (tM1 (fun x xs H Q => ∃ a p, ∃ ys : List Str, x = .str a ∧ xs = [.ref p] ∧ (SqL X.K H p (ys.map V.str) ∨ SqT X.K H p (ys.map V.str)) ∧
      (ys.map (·.length)).sum + ys.length * a.length ≤ 16777216 ∧ Q (.str (Txt.join a ys)) H) to te) :=
  pe_m1 F.slot_str_join F.type_str_join mt_join ho he hs hbase hline
end
end L2
namespace L2
open PySem PySem.Spec PyProof.Rows
section
variable {X : Cx}
end
theorem IsPart.raw {v : Value} {o : Option Int} (p : IsPart v o) : ∃ l : Option (Int × Tok), v = partValue l ∧ l.map (·.1) = o := by
  cases p with
  | none => exact ⟨none, rfl, rfl⟩
  | int i t => exact ⟨some (i, t), rfl, rfl⟩
/-- a part, clipped, as the text's slice reckons it -/
def clipS (n d : Nat) : Option Int → Int
  | none => (d : Int)
  | some i => max 0 (min (if i < 0 then i + (n : Int) else i) (n : Int))
theorem clipS_eq (n d : Nat) (o : Option Int) : clipS n d o = ((HT.sIx n d o : Nat) : Int) := by
  cases o with
  | none => rfl
  | some v =>
    show max (0 : Int) (min (if v < 0 then v + (n : Int) else v) (n : Int)) = (((if v < 0 then (v + (n : Int)).toNat else min v.toNat n) : Nat) : Int)
    by_cases hv : v < 0
    · simp only [if_pos hv]
      omega
    · simp only [if_neg hv]
      omega
theorem sidx_clip (a b : Option Int) (n : Nat) : Builtin.Str.strSliceIndices a b 1 n = sliceRange (clipS n 0 a) (clipS n n b) 1 := by
  have h1 : ((1 : Int) > 0) = True := by simp
  cases a <;> cases b <;> first
    | rfl
    | (simp only [Builtin.Str.strSliceIndices, clipS, h1, if_true]; rfl)
    | simp [Builtin.Str.strSliceIndices, clipS]
theorem sidx (a b : Option Int) (n : Nat) : Builtin.Str.strSliceIndices a b 1 n = (List.range (HT.sIx n n b - HT.sIx n 0 a)).map (fun k => HT.sIx n 0 a + k) := by
  rw [sidx_clip, clipS_eq, clipS_eq]
  generalize HT.sIx n 0 a = p
  generalize HT.sIx n n b = q
  simp only [sliceRange, show ((1 : Int) > 0) = True from by simp, if_true]
  by_cases hlt : (p : Int) < q
  · have e3 : (((q : Int) - p + 1 - 1) / 1).toNat = q - p := by first | omega | (simp; done) | (simp; omega)
    simp only [hlt, if_true, e3]
    refine List.map_congr_left fun k _ => ?_
    omega
  · have : q - p = 0 := by omega
    simp [hlt, this]
/-- z[lo:hi] -/
def cutS (z : Str) (lo hi : Option Int) : Str :=
  ⟨((z.cps.toList.drop (HT.sIx z.length 0 lo)).take (HT.sIx z.length z.length hi - HT.sIx z.length 0 lo)).toArray⟩
theorem sliceText_cut (z : Str) (lo hi : Option Int) : PySem.StrLaws.sliceText z lo hi = cutS z lo hi := by
  have h1 : HT.sIx z.length 0 lo ≤ z.length := HT.sIx_le _ _ (Nat.zero_le _) _
  have h2 : HT.sIx z.length z.length hi ≤ z.length := HT.sIx_le _ _ (Nat.le_refl _) _
  have hp : HT.sIx z.length 0 lo ≤ max (HT.sIx z.length 0 lo) (HT.sIx z.length z.length hi) := Nat.le_max_left _ _
  have hq : max (HT.sIx z.length 0 lo) (HT.sIx z.length z.length hi) ≤ z.length := Nat.max_le.mpr ⟨h1, h2⟩
  have hd : max (HT.sIx z.length 0 lo) (HT.sIx z.length z.length hi) - HT.sIx z.length 0 lo = HT.sIx z.length z.length hi - HT.sIx z.length 0 lo := by omega
  have e : Builtin.Str.strSliceIndices lo hi 1 z.length =
      Builtin.Str.strSliceIndices (some ((HT.sIx z.length 0 lo : Nat) : Int)) (some ((max (HT.sIx z.length 0 lo) (HT.sIx z.length z.length hi) : Nat) : Int)) 1 z.length := by
    rw [PySem.StrLaws.strSliceIndices_plain hp hq, hd, sidx]
  have e2 : PySem.StrLaws.sliceText z lo hi =
      PySem.StrLaws.sliceText z (some ((HT.sIx z.length 0 lo : Nat) : Int)) (some ((max (HT.sIx z.length 0 lo) (HT.sIx z.length z.length hi) : Nat) : Int)) := by
    unfold PySem.StrLaws.sliceText
    rw [e]
  rw [e2, PySem.StrLaws.sliceText_nat z hp hq, hd]
  rfl
theorem cutS_length (z : Str) (lo hi : Option Int) : (cutS z lo hi).length ≤ z.length := by
  show (((z.cps.toList.drop (HT.sIx z.length 0 lo)).take (HT.sIx z.length z.length hi - HT.sIx z.length 0 lo)).toArray).size ≤ z.cps.size
  rw [List.size_toArray, List.length_take, List.length_drop, Array.length_toList]
  omega
def rSlS : V → Option Int → Option Int → Hp → VK → Prop := fun x lo hi H Q => ∃ z, x = .str z ∧ z.length ≤ sizeLine ∧ Q (.str (cutS z lo hi)) H
theorem sl_str {X : Cx} : SlR X rSlS := by
  intro pins s σ H x v vl vu lo hi sl Q I rx hs pl pu h
  obtain ⟨z, rfl, hz, q⟩ := h
  obtain ⟨t, rfl⟩ := rx
  obtain ⟨os, hos, hcs, hds⟩ := hs
  obtain ⟨l, rfl, rfl⟩ := IsPart.raw pl
  obtain ⟨u, rfl, rfl⟩ := IsPart.raw pu
  refine ⟨"str", _, F.slot_str_getitem.lookup, typeIs_str _ _ _, ?_⟩
  refine wpAny_getItem_str_slice (l := l) (u := u) (st := none) ⟨os, hos, hcs, hds⟩ rfl ?_
  have hl : (PySem.StrLaws.sliceText z (l.map (·.1)) (u.map (·.1))).length ≤ sizeLine := by
    rw [sliceText_cut]
    exact Nat.le_trans (cutS_length z _ _) hz
  rw [← sliceText_cut] at q
  unfold PySem.StrLaws.sliceText at q hl
  show Made.post (if ((1 : Int) == 1 && (Builtin.Str.strSliceIndices (l.map (·.1)) (u.map (·.1)) 1 z.length).length == z.length) = true then Made.val (.str z t)
    else Made.str ⟨((Builtin.Str.strSliceIndices (l.map (·.1)) (u.map (·.1)) 1 z.length).filterMap (z.cps[·]?)).toArray⟩) (EP X pins σ Q) s
  by_cases c : ((1 : Int) == 1 && (Builtin.Str.strSliceIndices (l.map (·.1)) (u.map (·.1)) 1 z.length).length == z.length) = true
  · rw [if_pos c] at q ⊢
    exact ⟨.str z, H, I, ⟨t, rfl⟩, q⟩
  · rw [if_neg c] at q hl ⊢
    exact ⟨hl, .str _, H, I.tok _, ⟨_, rfl⟩, q⟩
end L2
namespace Att
open PySem PySem.W PySem.Calls PyProof.Rows
theorem ints_of_wellAll {P : Params} {h : Heap} : ∀ (ns : List Int) (vs : List Value), WellAll P h vs (ns.map WData.int) → IntsAre vs ns := by
  intro ns
  induction ns with
  | nil =>
    intro vs w
    rw [List.map_nil] at w
    cases w
    exact .nil
  | cons n ns ih =>
    intro vs w
    rw [List.map_cons] at w
    cases w with
    | cons a b =>
      cases a
      exact .cons _ _ (ih _ b)
theorem script_of {l : OpenLaw} {n : Nat} (hn : l.most = some n) {P : Params} {h : Heap} {args : List WData} {vals : List Value}
    (hpre : l.row.toRowW.claim.pre args = true) (hwl : WellAll P h vals args) :
    ∃ a vs ns, vals = [Value.ref a] ∧ args = [WData.list (ns.map WData.int)] ∧ h.get? a = some { cls := .type "list", data := .seq vs.toArray } ∧ IntsAre vs ns ∧ ns.length ≤ n := by
  have hsh : WShape.hasAll [] args [.list .int] = true := (pre_splitW hpre).1
  have hc : l.pre.holds [] { args := args } = true := (pre_splitW hpre).2
  obtain ⟨d, r, rfl, h1, h2⟩ := hasAllW_cons hsh
  obtain rfl := hasAllW_nil h2
  obtain ⟨xs, rfl, h3⟩ := hasW_list h1
  obtain ⟨ns, rfl⟩ := items_int h3
  have hlen : ns.length ≤ n := by
    unfold OpenLaw.pre at hc
    have h4 : (WTm.not (.lt (.lit (.int (n : Int))) (.len (.arg 0)))).holds [] { args := [.list (ns.map .int)] } = true := by
      have h4 := (holds_andW hc).1
      rw [hn] at h4
      exact h4
    have h5 := condW_of h4 (w_not (w_lt w_lit (w_len_list (w_arg rfl))))
    rw [List.length_map] at h5
    refine Nat.le_of_not_lt fun q => ?_
    have q' : (n : Int) < ((ns.length : Nat) : Int) := by omega
    first
      | (rw [decide_eq_true q'] at h5; exact absurd h5 (by decide))
      | (simp at h5; omega)
  cases hwl with
  | cons w1 w2 =>
    cases w2
    cases w1 with
    | list ho hall => exact ⟨_, _, ns, rfl, rfl, ho, ints_of_wellAll ns _ hall, hlen⟩
theorem post_true (l : OpenLaw) (args : List WData) : l.row.toRowW.claim.post args (.bool true) args = true :=
  postW_of (r := l.row.toRowW) (X := (true == true))
    (show WShape.has [] (.bool true) .bool = true by first | rfl | decide | simp [WShape.has, WShape.arms, WShape.armsAll])
    (show (WTm.eq .res (.lit (.bool true))).value [] { args := args, res := some (.bool true), after := args } = some (.bool (true == true)) from w_eq_bool (w_res rfl) w_lit) rfl
/-- the same from a codeAny of the CALL (for a layer whose function contracts speak of calls) -/
theorem attach_call {l : OpenLaw} {n : Nat} {q : Program} {loose : List Str} {XP : (Str → Option Value) → Heap → Prop} {YP : World → Heap → Prop} {d : DefRec}
    (hn : l.most = some n) (hdf : d.params.defaults = [])
    (call : ∀ (w : World) (s₀ s₁ : Shared) (mg mb : Str → Option Value) (fa : Addr) (o : Obj) (pm cd doc : Value) (a : Addr) (vs : List Value) (ns : List Int),
      Ground q loose [] XP w s₀ mg mb s₁.heap → YP w s₁.heap →
      s₁.heap.get? fa = some o → o.data = .func (docDef d.name d.params d.body d.scope pm cd doc) → s₁.heap.CodeRec cd d.name → mg d.name = some (.ref fa) →
      s₁.heap.get? a = some { cls := .type "list", data := .seq vs.toArray } → IntsAre vs ns → ns.length ≤ n → s₁.gens = #[] →
      codeAny (model l.prog w) callerA (.call (.ref fa) ⟨[.ref a], []⟩) (fun r s' => r = .ok (.ret (.bool true)) ∧ OldK s₁.heap s'.heap ∧ s'.os = s₁.os ∧ AllBare s'.gens) s₁) :
    WalkO q loose XP YP l.row.toRowW d [] (fun f vs => PySem.call f vs) := by
  intro w s₀ s₁ mg mb G Y fa o pm cd doc dV kV ho hd hcd hD hmg hg args vals as hpre hlay hrd hwl hlo
  obtain rfl : dV = .none := Dflts.none hD hdf
  obtain rfl : kV = .none := Dflts.noKw hD
  obtain ⟨a, vs, ns, rfl, rfl, hobj, hints, hlen⟩ := script_of hn hpre hwl
  refine enter_call (codeAny_mono (call w s₀ s₁ mg mb fa o pm cd doc a vs ns G Y ho (fd_plain hd) hcd hmg hobj hints hlen hg) fun r s' hq => ?_)
  obtain ⟨rfl, h2, h3, h4⟩ := hq
  exact ⟨.inl ⟨.bool true, .bool true, [], rfl, fun _ => rfl, .bool true, post_true l _, fun _ => ⟨List.Pairwise.nil, fun _ hm => (nomatch hm)⟩⟩, h2, h3, h4⟩
section
variable {prog : Program} {w : World} {A : Around} {E : Value → Shared → Prop} {s : Shared} {K : Frag}
def noObjs (h : Heap) : Heap := { h with objs := #[] }
def ledger (h : Heap) (L d : Addr) : List (Addr × Obj) := (List.range h.objs.size).filterMap fun a => if a = L ∨ a = d then none else (h.get? a).map fun o => (a, o)
end
end Att
namespace L2
open PySem PySem.Spec PyProof.Rows
theorem vals_ints : ∀ {vs : List Value} {ns : List Int}, IntsAre vs ns → Vals (ns.map V.int) vs
  | _, _, .nil => .nil
  | _, _, .cons n t h => .cons ⟨t, rfl⟩ (vals_ints h)
/-- nothing is tracked but the script, known to the object (or it is an object of the module) -/
def Only (H : Hp) : Prop := ∀ b, H b = none ∨ ∃ o xs, H b = some (.frz o (.lst xs))
/-- THE HEAD: the law's promise, at the heap behind the top. F, the promise of the law's def, may use that base is part of the heap (so K.In base, base.Ns mainGlobals mg stand in Mod) -/
theorem law_call {P : Program} {w : World} {K : PySem.W.Frag} {mg mb : Str → Option Value} {CX : CXT} {k : Nat} {fa a : Addr} {fd : FuncData} {x : Str} {sp : Sp} {s₁ : Shared} {vs : List Value} {ns : List Int}
    (KX : K.In s₁.heap) (hns : s₁.heap.Ns mainGlobals mg) (hb : s₁.heap.Ns builtinsNs mb) (hbb : ∀ x : Str, x ≠ "__name__" → mb x = bootBuiltins x) (hlim : s₁.heap.NoLimit) (hg : s₁.gens = #[])
    (ha : s₁.heap.get? a = some { cls := .type "list", data := .seq vs.toArray }) (hi : IntsAre vs ns) (hl : ns.length ≤ sizeLine) (hr : Room k callerA)
    (F : ∀ base : Heap, K.In base → base.Ns mainGlobals mg → FnOk P w K mg base CX k fa fd [x] sp) (hbind : ∀ (s : Shared) (u : Value), BindsTo s fd ⟨[u], []⟩ [(x, u)])
    (hsp : ∀ H : Hp, Only H → SqL K H a (ns.map V.int) → sp [.ref a] H (fun v _ => v = .bl true) fun _ _ _ => False)
    (hCX : ∀ H e s', CX [] H s₁ (fun _ _ _ => False) e s' → False) :
    codeAny (model P w) callerA (.call (.ref fa) ⟨[.ref a], []⟩) (fun r s' => r = .ok (.ret (.bool true)) ∧ OldK s₁.heap s'.heap ∧ s'.os = s₁.os ∧ AllBare s'.gens) s₁ := by
  have rv := vals_ints hi
  have lenV := hi.length
  -- from an abstract heap in which nothing but the script may be tracked
  have core : ∀ H : Hp, Only H → SqL K H a (ns.map V.int) → HOk P w H s₁.heap → (∀ b, H b ≠ none → b = a) → (H a ≠ none → K.lookup a = none) →
      codeAny (model P w) callerA (.call (.ref fa) ⟨[.ref a], []⟩) (fun r s' => r = .ok (.ret (.bool true)) ∧ OldK s₁.heap s'.heap ∧ s'.os = s₁.os ∧ AllBare s'.gens) s₁ := by
    intro H hO hS hok hA hK
    have base_of : ∀ {b : Addr} {o : Obj}, s₁.heap.get? b = some o → H b = none → (hidT s₁.heap H).get? b = some o := fun e n => hidT_get e n
    have noA : ∀ {b : Addr} {o : Obj} {es : Array DictEntry} {ep : Nat}, s₁.heap.get? b = some o → o.data = .dict es ep → H b = none := fun {b o es ep} e d => by
      cases q : H b with
      | none => rfl
      | some u =>
        have e' : b = a := hA b (by rw [q]; simp)
        subst e'
        rw [ha] at e; cases e
        have d' : Data.seq vs.toArray _ = Data.dict es ep := d
        cases d'
    have nsK : ∀ {b : Addr} {m : Str → Option Value}, s₁.heap.Ns b m → (hidT s₁.heap H).Ns b m := fun {b m} ⟨o, es, ep, e, d, r⟩ => ⟨o, es, ep, base_of e (noA e d), d, r⟩
    have hKb : K.In (hidT s₁.heap H) := fun b o e => base_of (KX b o e) (by
      cases q : H b with
      | none => rfl
      | some u =>
        have e' : b = a := hA b (by rw [q]; simp)
        subst e'
        rw [hK (by rw [q]; simp)] at e; cases e)
    have hM : Mod K mg (hidT s₁.heap H) := ⟨hKb, nsK hns, ⟨mb, nsK hb, hbb⟩, let ⟨mc, h1, h2⟩ := hlim; ⟨mc, nsK h1, h2⟩⟩
    have e0 : Env0 P w K mg (hidT s₁.heap H) callerA [] s₁ H := ⟨rfl, hM, fun b o e => of_hidT e, Nat.le_of_eq (hidT_size _ _), trivial, fun b hb => absurd (show b ∈ ([] : List Addr) from hb) (by simp), hok, .of_eq hg⟩
    refine codeAny_mono ((F _ hKb (nsK hns)).run callerA [] s₁ H ⟨[.ref a], []⟩ [.ref a] [.ref a] _ _ hr e0 (hbind s₁ (.ref a)) (.cons rfl .nil) (hsp H hO hS)) fun r s' h => ?_
    cases r with
    | error e => exact (hCX H e s' h).elim
    | ok fl =>
      cases fl with
      | next => exact False.elim h
      | brk => exact False.elim h
      | cont => exact False.elim h
      | ret u =>
        obtain ⟨v, H', os, bare, un, hok', r', q⟩ := h
        have q' : v = .bl true := q
        subst q'
        obtain rfl : u = Value.bool true := r'
        refine ⟨rfl, OldK.of_keep fun b o e => ?_, os, bare⟩
        cases q : H b with
        | none => exact un.keep b o e q (by intro z; exact absurd (show b ∈ ([] : List Addr) from z) (by simp)) (by simp)
        | some u =>
          rcases hO b with z | ⟨ob, xs, z⟩
          · rw [q] at z; cases z
          · have z2 := un.frzs b ob _ z
            obtain ⟨e1, _⟩ := hok b _ z
            obtain ⟨e2, _⟩ := hok' b _ z2
            rw [e] at e1; cases e1
            exact e2
  cases hk : K.lookup a with
  | some o =>
    -- the script is one of the module's own objects
    have e := KX a o hk
    rw [ha] at e
    cases e
    refine core (fun _ => none) (fun _ => .inl rfl) (.inr ⟨_, vs.toArray, _, hk, rfl, rfl, rfl, by rw [List.size_toArray, lenV]; exact hl, by simpa using rv⟩) (fun b u z => by have z' : (none : Option HO) = some u := z; cases z') (fun b z => absurd rfl z) fun z => absurd rfl z
  | none =>
    refine core (fun b => if b = a then some (.frz { cls := .type "list", data := .seq vs.toArray } (.lst (ns.map V.int))) else none) (fun b => ?_) (.inl (.inr ⟨{ cls := .type "list", data := .seq vs.toArray }, if_pos rfl⟩)) (fun b u z => ?_) (fun b z => ?_) fun _ => hk
    · by_cases hb : b = a
      · exact .inr ⟨_, _, if_pos hb⟩
      · exact .inl (if_neg hb)
    · by_cases hb : b = a
      · have z' := (if_pos hb).symm.trans z
        cases z'
        subst hb
        exact ⟨ha, by rw [List.length_map]; exact hl, vs, _, rv, ha⟩
      · have z' := (if_neg hb).symm.trans z
        cases z'
    · by_cases hb : b = a
      · exact hb
      · exact absurd (if_neg hb) z
end L2
namespace L2
open PySem PySem.Spec PyProof.Rows
abbrev KOf {K : PySem.W.Frag} {h : Heap} (_ : K.In h) : PySem.W.Frag := K
/-- the goal that k_head leaves (case hc), from the law's promise. F gives the function object fd (K's own) once, then the promise over every base -/
theorem walk_of {l : PySem.W.OpenLaw} {n k : Nat} {q : Program} {loose : List Str} {XP : (Str → Option Value) → Heap → Prop} {YP : World → Heap → Prop} {d : DefRec} {K : Params → PySem.W.Frag} {CX : World → CXT} {sp : World → Sp} {x : Str}
    (hn : l.most = some n) (hn2 : n ≤ sizeLine) (hdf : d.params.defaults = []) (hr : Room k callerA)
    (hY : ∀ (w : World) (h : Heap), YP w h → (K w.params).In h)
    (F : ∀ (w : World) (mg : Str → Option Value) (fa : Addr) (h : Heap), (K w.params).In h → h.Ns mainGlobals mg → mg d.name = some (.ref fa) →
      ∃ fd : FuncData, (∀ (s : Shared) (u : Value), BindsTo s fd ⟨[u], []⟩ [(x, u)]) ∧
        ∀ base : Heap, (K w.params).In base → base.Ns mainGlobals mg → FnOk l.prog w (K w.params) mg base (CX w) k fa fd [x] (sp w))
    (hsp : ∀ (w : World) (H : Hp) (a : Addr) (ns : List Int), ns.length ≤ n → Only H → SqL (K w.params) H a (ns.map V.int) → sp w [.ref a] H (fun v _ => v = .bl true) fun _ _ _ => False)
    (hCX : ∀ (w : World) (H : Hp) (s : Shared) (e : Value) (s' : Shared), CX w [] H s (fun _ _ _ => False) e s' → False) :
    PySem.W.WalkO q loose XP YP l.row.toRowW d [] (fun f vs => PySem.call f vs) := by
  refine Att.attach_call hn hdf fun w s₀ s₁ mg mb fa o pm cd doc a vs ns G Y ho hd hcd hmg hobj hints hlen hg => ?_
  have KX := hY w _ Y
  obtain ⟨fd, hb, hF⟩ := F w mg fa _ KX G.T.g hmg
  exact law_call KX G.T.g G.T.b G.T.builtins G.T.nolimit hg hobj hints (Nat.le_trans hlen hn2) hr hF hb (fun H hO hS => hsp w H a ns hlen hO hS) fun H e s' => hCX w H s₁ e s'
end L2
/- THE LAST THEOREM (shape; LID, My.* are yours):
   My.Adr: a structure of the addresses that your layer names (classes, functions); My.Txt K t: a structure (Prop) of the equations over K;
   My.txt_mk : {K} {implicit addresses ..} (e1 : nsIn K mainGlobals "law" = some (some (.ref f))) (e2 : K.lookup f = some ⟨oc, od, .func (fnOf "law" "law" params body scope dV kV doc pm an cdv ct), sl⟩) (e3 : codeIn K cdv "law" = true) .. : ∃ t, My.Txt K t
set_option maxRecDepth 100000 in
set_option maxHeartbeats 0 in
theorem PySem.Challenge.cw_LID_holds : PySem.Challenge.rw_LID.Holds := by
  w_on; o_law; k_head; (case hw => w_witness2)
  k_fill
  refine L2.walk_of (l := PySem.Challenge.rw_LID) (n := 63) (k := 40) (x := "script") (CX := fun w => ..) (sp := fun _ => My.sp_law) rfl (by decide) rfl ⟨rfl, by decide, by decide⟩ (fun w h Y => PySem.W.kIn_of Y) ?F ?S ?C
  case F =>
    intro w mg fa h KX G hmg
    have T : ∃ t, My.Txt (L2.KOf KX) t := by
      dsimp only [L2.KOf]                          -- K must stand as «<heap const> w.params» for k_is
      refine' My.txt_mk ?e1 ?e2 ?e3 ..
      (case e1 => PySem.W.k_is)                    -- in the order: a name -> its address -> its object -> its parts
      (case e2 => PySem.W.k_is)
      ..
    obtain ⟨t, T⟩ := T
    have e0 := hmg.symm.trans (PySem.W.mg_of KX G T.law)
    cases e0                                       -- fa is the law's own address
    exact ⟨_, fun s u => .of_eq rfl, fun base kb nb => My.law_fn T kb nb⟩     -- if «.of_eq rfl» comes too early: refine' ⟨_, ?b, fun base kb nb => My.law_fn T kb nb⟩; exact fun s u => .of_eq rfl
  case S => exact fun w H a ns hl hO hS => ..
  case C => exact ..
(the tactic k_is has no namespace: write k_is) -/
namespace L2
open PySem PySem.Spec PyProof.Rows
/-- the j-th statement of a class's body -/
def inClass (s : Stmt) (j : Nat) : Stmt := match s with
  | .ClassDef _ _ _ body _ _ _ _ _ _ _ => body.getD j (.Pass ⟨0, 0, 0, 0⟩)
  | _ => .Pass ⟨0, 0, 0, 0⟩
def defArgs (s : Stmt) : Arguments := match s with
  | .FunctionDef _ a _ _ _ _ _ _ _ _ => a
  | _ => { posonlyargs := [], args := [], vararg := none, kwonlyargs := [], kw_defaults := [], kwarg := none, defaults := [] }
def defBody (s : Stmt) : List Stmt := match s with
  | .FunctionDef _ _ b _ _ _ _ _ _ _ => b
  | _ => []
def defScope (s : Stmt) : Scope := match s with
  | .FunctionDef _ _ _ _ _ _ sc _ _ _ => sc
  | _ => { kind := .function, names := [], isGenerator := false, isCoroutine := false }
abbrev CX0 : CXT := fun _ _ _ _ _ _ => False
abbrev E0 : XK := fun _ _ _ => False
theorem pass0 {X : Cx} : Passes CX0 X E0 := fun _ _ _ _ _ _ _ h => h.elim
structure Fun (K : PySem.W.Frag) (x qual : Str) (st : Stmt) (f : Addr) (fd : FuncData) : Prop where
  ex : ∃ (oc : Value) (od : Option Addr) (kV doc pm : Value) (an : Option Addr) (cdv ct : Value) (osl : Array (Option Value)),
    fd = PySem.W.fnOf x qual (defArgs st) (defBody st) (defScope st) .none kV doc pm an cdv ct ∧ K.lookup f = some ⟨oc, od, .func fd, osl⟩ ∧ PySem.W.codeIn K cdv qual = true
  kp : PySem.W.keepIn K (.ref f) = true
section
variable {P : Program} {w : World} {K : PySem.W.Frag} {mg : Str → Option Value} {base : Heap}
/-- THE RULE for a def: its body as a term of rules, and the reading of that term -/
theorem Fun.ok {x qual : Str} {st : Stmt} {f : Addr} {fd : FuncData} {N ps : List Str} {k : Nat} {sp : Sp} (F : Fun K x qual st f fd) (S : FnScope N ps (defScope st)) (len : ∀ vs H Q E, sp vs H Q E → vs.length = ps.length)
    (hbody : ∀ (cdv : Value) (A : Around) (outer : List Env) (s : Shared) (H : Hp) (vs : List V) (Q : VK) (E : XK), Room k (A.deeper (envOfC qual (defScope st) s.heap.objs.size f cdv)) → sp vs H Q E →
      ∃ t, PSs (cxOf CX0 P w K mg base N qual (defScope st) f cdv A outer s H E).nox (defBody st) t ∧ t { nx := fun _ H' => Q .non H', rt := Q } (start N vs) H) : FnOk P w K mg base CX0 (k + 1) f fd ps sp := by
  obtain ⟨oc, od, kV, doc, pm, an, cdv, ct, osl, rfl, lk, hcd⟩ := F.ex
  refine fn_of lk hcd S len fun A outer s H vs Q E hr hsp => ?_
  obtain ⟨t, h, q⟩ := hbody cdv A outer s H vs Q E hr hsp
  exact ⟨t, h.nox, q⟩
/-- how its arguments bind (no defaults): h is «fun _ _ _ _ _ _ us hl => match us, hl with | [_, _], _ => rfl», one _ a parameter -/
theorem Fun.binds {x qual : Str} {st : Stmt} {f : Addr} {fd : FuncData} {ps : List Str} (F : Fun K x qual st f fd)
    (h : ∀ (kV doc pm : Value) (an : Option Addr) (cdv ct : Value) (us : List Value), us.length = ps.length → bindArgs (PySem.W.fnOf x qual (defArgs st) (defBody st) (defScope st) .none kV doc pm an cdv ct) ⟨us, []⟩ = pure (ps.zip us)) : Binds K fd ps [] := by
  obtain ⟨oc, od, kV, doc, pm, an, cdv, ct, osl, rfl, lk, hcd⟩ := F.ex
  exact .all (h kV doc pm an cdv ct)
theorem fun_mk {x qual : Str} {st : Stmt} {f : Addr} {oc : Value} {od an : Option Addr} {osl : Array (Option Value)} {kV doc pm cdv ct : Value} (l : K.lookup f = some ⟨oc, od, .func (PySem.W.fnOf x qual (defArgs st) (defBody st) (defScope st) .none kV doc pm an cdv ct), osl⟩)
    (c : PySem.W.codeIn K cdv qual = true) (k : PySem.W.keepIn K (.ref f) = true) : Fun K x qual st f (PySem.W.fnOf x qual (defArgs st) (defBody st) (defScope st) .none kV doc pm an cdv ct) := ⟨⟨oc, od, kV, doc, pm, an, cdv, ct, osl, rfl, l, c⟩, k⟩
end
theorem hu_of {A : Around} {k : Nat} (hr : Room k A) : A.units + 1 < cLine := Nat.lt_of_le_of_lt (Nat.add_le_add_left (by decide : 1 ≤ 64) _) hr.units
theorem small1000 {n : Nat} (h : n ≤ 1000) : n < sizeLine := Nat.lt_of_le_of_lt h (by decide)
section
variable {X : Cx}
theorem pv (i : Nat) {x : Str} {pos : Pos} (hN : X.N[i]? = some x := by rfl) (hv : Vis X.env.scope x := by first | exact Or.inl rfl | exact Or.inr (Or.inl rfl) | exact Or.inr (Or.inr rfl)) (hd : (x == ("__debug__" : Str)) = false := by decide)
    (hcd : (x == ("__classdict__" : Str)) = false := by decide) : PE X (.Name x pos) (tVar i) := pe_var hN hv hd hcd
end
theorem iteF {A B : Prop} (h : B) : if false = true then A else B := by
  rw [if_neg Bool.false_ne_true]
  exact h
theorem iteT {A B : Prop} (h : A) : if true = true then A else B := by
  rw [if_pos rfl]
  exact h
theorem ite2 {c A B : Prop} [Decidable c] (h1 : c → A) (h2 : ¬ c → B) : if c then A else B := by
  by_cases h : c
  · rw [if_pos h]
    exact h1 h
  · rw [if_neg h]
    exact h2 h
/-- all that was tracked is as it was -/
def Same (H H' : Hp) : Prop := ∀ b o, H b = some o → H' b = some o
theorem Same.refl (H : Hp) : Same H H := fun _ _ h => h
theorem Same.trans {H H1 H2 : Hp} (a : Same H H1) (b : Same H1 H2) : Same H H2 := fun c o h => b c o (a c o h)
theorem Same.free {H H' : Hp} (e : Same H H') {l : Addr} (h : H' l = Option.none) : H l = Option.none := by
  cases q : H l with
  | none => rfl
  | some o =>
    rw [e l o q] at h
    cases h
theorem Same.seq {K : PySem.W.Frag} {H H' : Hp} {a : Addr} {xs : List V} (e : Same H H') (h : SqL K H a xs) : SqL K H' a xs := by
  rcases h with (h | ⟨o, h⟩) | h
  · exact .inl (.inl (e _ _ h))
  · exact .inl (.inr ⟨o, e _ _ h⟩)
  · exact .inr h
section
variable {κ : Type} [DecidableEq κ]
end
/-- a new instance and its __init__ leave all that was tracked as it was -/
theorem Same.made {H H1 : Hp} {x dx C : Addr} (nx : H x = Option.none) (nd : H dx = Option.none) (k : ∀ b o, (upd (upd H dx (.own x)) x (.ins C dx [])) b = some o → b ≠ x → H1 b = some o) : Same H H1 := fun b o e =>
  k b o (by rw [upd_ne (ne_of_none e nx), upd_ne (ne_of_none e nd)]; exact e) (ne_of_none e nx)
end L2
set_option Elab.async false
set_option linter.all false
set_option maxRecDepth 100000
namespace L2
open PySem PySem.Spec PyProof.Rows
abbrev EnO (h : Heap) (e it : Addr) (i : Int) (f0 f1 old : Value) : Prop :=
  h.get? e = some { cls := .type "enumerate", dict := none, data := .fields #[f0, f1, .ref it, rawInt i, .none, old], slots := #[] }
/-- the enumerate between two items: nothing handed out, or the last pair still stands -/
def EnS (h : Heap) (e it : Addr) (i : Int) : Prop :=
  (∃ old, EnO h e it i .none (.bool false) old) ∨ ∃ (a : Addr) (f : Bool) (old : Value) (oa : Obj), EnO h e it i (rawInt a) (.bool f) old ∧ h.get? a = some oa ∧ a ≠ e ∧ a ≠ it
section
variable {prog : Program} {w : World} {A : Around} {E : Value → Shared → Prop} {s : Shared}
theorem en_next {e it l : Addr} {i : Nat} {items : Array Value} {x : Value} {Q : Value → Shared → Prop}
    (he : EnS s.heap e it i) (hit : s.heap.IsListIter it l i) (hl : s.heap.IsList l items) (hx : items[i]? = some x) (hne : e ≠ it)
    (hQ : ∀ h', EnS h' e it ((i : Int) + 1) → h'.IsListIter it l (i + 1) →
      h'.get? s.heap.objs.size = some { cls := .type "tuple", data := .seq #[.int i s.toks, x] } → h'.objs.size = s.heap.objs.size + 1 →
      (∀ b o, b ≠ e → b ≠ it → s.heap.get? b = some o → h'.get? b = some o) → Q (.ref s.heap.objs.size) { s with heap := h', toks := s.toks + 1 }) :
    wpAny (model prog w) A (Builtin.«enumerate.__next__» ⟨[.ref e], []⟩) (fun fin s' => ∃ v, fin = .done (.ret v) ∧ Q v s') E s := by
  rcases he with ⟨old, he⟩ | ⟨a, f, old, oa, he, ha, hae, hai⟩
  · refine enumerate_next_item he hit hl hx hne fun h' h1 h2 h3 h4 h5 => hQ h' (.inr ⟨_, _, _, _, h1, h3, ?_, ?_⟩) h2 h3 h4 h5
    · exact Nat.ne_of_gt (Heap.lt_size he)
    · obtain ⟨o, ho, _⟩ := hit
      exact Nat.ne_of_gt (Heap.lt_size ho)
  obtain ⟨hp, g, d, tk, os⟩ := s
  show wpAny _ _ (field (.ref e) 2 >>= _) _ _ _
  refine wpAny_bind (wpAny_field he rfl (x := .ref it) rfl ?_)
  refine wpAny_bind (wpAny_nextOf_list_item hit hl hx fun h₁ hit₁ hs₁ => ?_)
  replace hs₁ : Heap.SameBut it hp h₁ := hs₁
  have he₁ : EnO h₁ e it i (rawInt a) (.bool f) old := (hs₁.2 e hne).trans he
  show wpAny _ _ (field (.ref e) 3 >>= _) _ _ ⟨h₁, g, d, tk, os⟩
  refine wpAny_bind (wpAny_field he₁ rfl (x := rawInt i) rfl ?_)
  show wpAny _ _ (field (.ref e) 4 >>= _) _ _ ⟨h₁, g, d, tk, os⟩
  refine wpAny_bind (wpAny_field he₁ rfl (x := .none) rfl ?_)
  show wpAny _ _ (mkInt i >>= _) _ _ ⟨h₁, g, d, tk, os⟩
  refine wpAny_bind (wpAny_mkInt ?_)
  show wpAny _ _ (setField (.ref e) 3 (rawInt ((i : Int) + 1)) >>= _) _ _ ⟨h₁, g, d, tk + 1, os⟩
  refine wpAny_bind (wpAny_setField_rec he₁ (by simp) fun h₂ he₂ hs₂ => ?_)
  replace hs₂ : Heap.SameBut e h₁ h₂ := hs₂
  replace he₂ : EnO h₂ e it ((i : Int) + 1) (rawInt a) (.bool f) old := he₂
  show wpAny _ _ (setField (.ref e) 4 .none >>= _) _ _ ⟨h₂, g, d, tk + 1, os⟩
  refine wpAny_bind (wpAny_setField_rec he₂ (by simp) fun h₃ he₃ hs₃ => ?_)
  replace hs₃ : Heap.SameBut e h₂ h₃ := hs₃
  replace he₃ : EnO h₃ e it ((i : Int) + 1) (rawInt a) (.bool f) old := he₃
  show wpAny _ _ (newTuple [.int i tk, x] >>= _) _ _ ⟨h₃, g, d, tk + 1, os⟩
  refine wpAny_bind (wpAny_newTuple ?_)
  have he₄ : EnO (h₃.push { cls := .type "tuple", data := .seq #[.int i tk, x] }) e it ((i : Int) + 1) (rawInt a) (.bool f) old := Heap.get?_push_of_some _ he₃
  generalize hh₄ : h₃.push { cls := .type "tuple", data := .seq #[.int i tk, x] } = h₄ at he₄
  have hsz : h₃.objs.size = hp.objs.size := by rw [hs₃.1, hs₂.1, hs₁.1]
  have hel : e < hp.objs.size := Heap.lt_size he
  have hil : it < hp.objs.size := by obtain ⟨o, ho, _⟩ := hit; exact Heap.lt_size ho
  have ht₄ : h₄.get? hp.objs.size = some { cls := .type "tuple", data := .seq #[.int i tk, x] } := by rw [← hh₄, ← hsz]; exact Heap.get?_push_size _ rfl
  have hz₄ : h₄.objs.size = hp.objs.size + 1 := by rw [← hh₄, Heap.size_push, hsz]
  have hk₄ : ∀ b o, b ≠ e → b ≠ it → hp.get? b = some o → h₄.get? b = some o := fun b o hbe hbi hb => by
    rw [← hh₄]; exact Heap.get?_push_of_some _ (hs₃.extBut b o hbe (hs₂.extBut b o hbe (hs₁.extBut b o hbi hb)))
  have hit₄ : h₄.IsListIter it l (i + 1) := by
    rw [← hh₄]; obtain ⟨o, ho, r⟩ := (hit₁.extBut hs₂.extBut (Ne.symm hne)).extBut hs₃.extBut (Ne.symm hne); exact ⟨o, Heap.get?_push_of_some _ ho, r⟩
  have ha₄ : h₄.get? a = some oa := hk₄ a oa hae hai ha
  show wpAny _ _ (Builtin.SmallTypes.ownedTupleIsFree (.ref e) >>= _) _ _ ⟨h₄, g, d, tk + 1, os⟩
  rw [hsz]
  clear hh₄ he₃ hs₃ he₂ hs₂ he₁ hs₁ hit₁ hsz h₃ h₂ h₁
  refine wpAny_bind ?_
  unfold Builtin.SmallTypes.ownedTupleIsFree
  refine wpAny_bind (wpAny_field he₄ rfl (x := rawInt a) rfl ?_)
  show wpAny _ _ (loadIfAlive (a : Int).toNat >>= _) _ _ ⟨h₄, g, d, tk + 1, os⟩
  rw [Int.toNat_natCast]
  refine wpAny_bind (PySem.W.kdx_alive (s := ⟨h₄, g, d, tk + 1, os⟩) ha₄ ?_)
  refine wpAny_ite_split (fun hab => absurd hab (by simp)) fun _ => ?_
  refine wpAny_bind (wpAny_field he₄ rfl (x := .bool f) rfl ?_)
  cases f with
  | true =>
    refine wpAny_ite_split (fun hab => absurd hab (by decide)) fun _ => ?_
    refine wpAny_pure ?_
    exact wpAny_pure ⟨_, rfl, hQ h₄ (.inr ⟨a, true, old, oa, he₄, ha₄, hae, hai⟩) hit₄ ht₄ hz₄ hk₄⟩
  | false =>
    refine wpAny_ite_split (fun _ => ?_) fun hab => absurd (by decide) hab
    refine wpAny_bind (wpAny_setField_rec he₄ (by simp) fun h₅ he₅ hs₅ => ?_)
    replace hs₅ : Heap.SameBut e h₄ h₅ := hs₅
    replace he₅ : EnO h₅ e it ((i : Int) + 1) (rawInt a) (.bool true) old := he₅
    refine wpAny_pure ?_
    refine wpAny_pure ⟨_, rfl, hQ h₅ (.inr ⟨a, true, old, oa, he₅, hs₅.extBut _ _ hae ha₄, hae, hai⟩) (hit₄.extBut hs₅.extBut (Ne.symm hne)) (hs₅.extBut _ _ (Nat.ne_of_gt hel) ht₄) (by rw [hs₅.1, hz₄]) ?_⟩
    exact fun b o hbe hbi hb => hs₅.extBut b o hbe (hk₄ b o hbe hbi hb)
theorem en_pyNext {e it l : Addr} {i : Nat} {items : Array Value} {x : Value} {Q : Option Value → Shared → Prop}
    (he : EnS s.heap e it i) (hit : s.heap.IsListIter it l i) (hl : s.heap.IsList l items) (hx : items[i]? = some x) (hne : e ≠ it)
    (hQ : ∀ h', EnS h' e it ((i : Int) + 1) → h'.IsListIter it l (i + 1) →
      h'.get? s.heap.objs.size = some { cls := .type "tuple", data := .seq #[.int i s.toks, x] } → h'.objs.size = s.heap.objs.size + 1 →
      (∀ b o, b ≠ e → b ≠ it → s.heap.get? b = some o → h'.get? b = some o) → Q (some (.ref s.heap.objs.size)) { s with heap := h', toks := s.toks + 1 }) :
    wpAny (model prog w) A (pyNext (.ref e)) Q E s := by
  have hT : s.TypeIs (.ref e) "enumerate" := by rcases he with ⟨_, he⟩ | ⟨_, _, _, _, he, _⟩ <;> exact ⟨_, he, rfl⟩
  unfold pyNext
  exact wpAny_bind (wpAny_attempt (wpAny_callSpecial?_slot (name := Str.ofString "__next__") hT PySem.F.slot_enumerate_next
    (wpAny_call_entry PySem.F.slot_enumerate_next hT PySem.F.entry_enumerate_next
      (en_next he hit hl hx hne fun h' a b c d k => wpAny_pure (hQ h' a b c d k)) (PySem.F.args_enumerate_next_1 _))))
theorem en_pyEnd {e it l : Addr} {i : Nat} {items : Array Value} {Q : Option Value → Shared → Prop} (hh : A.handled = none)
    (he : EnS s.heap e it i) (hit : s.heap.IsListIter it l i) (hl : s.heap.IsList l items) (hx : items[i]? = none)
    (hQ : ∀ h', Heap.ExtBut it s.heap h' → Q none { s with heap := h' }) : wpAny (model prog w) A (pyNext (.ref e)) Q E s := by
  have go : ∀ f0 f1 old, EnO s.heap e it i f0 f1 old → wpAny (model prog w) A (pyNext (.ref e)) Q E s := by
    intro f0 f1 old he
    have hT : s.TypeIs (.ref e) "enumerate" := ⟨_, he, rfl⟩
    unfold pyNext
    refine wpAny_bind (wpAny_attempt (wpAny_callSpecial?_slot (name := Str.ofString "__next__") hT PySem.F.slot_enumerate_next
      (wpAny_call_entry PySem.F.slot_enumerate_next hT PySem.F.entry_enumerate_next ?_ (PySem.F.args_enumerate_next_1 _))))
    show wpAny _ _ (field (.ref e) 2 >>= _) _ _ _
    refine wpAny_bind (wpAny_field he rfl (x := .ref it) rfl ?_)
    refine wpAny_bind (wpAny_nextOf_list_end hh hit hl hx fun h' x he' hx' => ?_)
    obtain ⟨o, ho, hc⟩ := hx'
    refine wpAny_bind (wpAny_isInstance (T := "StopIteration") (b := true) ⟨o, ho, hc⟩ isSubtype_stop ?_)
    exact wpAny_pure (hQ _ he')
  rcases he with ⟨old, he⟩ | ⟨a, f, old, oa, he, _⟩
  · exact go _ _ _ he
  · exact go _ _ _ he
theorem EnS.keep {h h' : Heap} {e it S : Addr} {i : Int} (x : EnS h e it i) (hk : ∀ b o, b ≠ S → h.get? b = some o → h'.get? b = some o) (he : e ≠ S)
    (hS : ∀ o, h.get? S = some o → ∃ o', h'.get? S = some o') : EnS h' e it i := by
  rcases x with ⟨old, x⟩ | ⟨a, f, old, oa, x, ha, h1, h2⟩
  · exact .inl ⟨old, hk _ _ he x⟩
  · by_cases z : a = S
    · subst z
      obtain ⟨o', q⟩ := hS _ ha
      exact .inr ⟨a, f, old, o', hk _ _ he x, q, h1, h2⟩
    · exact .inr ⟨a, f, old, oa, hk _ _ he x, hk _ _ z ha, h1, h2⟩
/-- the pairs made so far -/
structure EnG (its : Array Value) (lo : Addr) (h : Heap) (as : List Addr) : Prop where
  above : ∀ a ∈ as, lo < a
  pairs : ∀ (j : Nat) (a : Addr), as[j]? = some a → ∃ (t : Tok) (x : Value), its[j]? = some x ∧ h.get? a = some { cls := .type "tuple", data := .seq #[.int j t, x] }
theorem en_loop {S e it l : Addr} {items : Array Value} {R : Result → Shared → Prop} (hh : A.handled = none) {lo : Addr} (hSlo : S ≤ lo) (helo : e ≤ lo) (hilo : it ≤ lo) (hne : S ≠ e) (hni : S ≠ it) (hei : e ≠ it) (hlS : l ≠ S) (hle : l ≠ e) (hli' : l ≠ it) (hn : items.size ≤ sizeLine) (res : Value) {h₁ : Heap}
    (hR : ∀ h' tk acc c as, (∀ b o, b ≠ S → b ≠ e → b ≠ it → h₁.get? b = some o → h'.get? b = some o) → h'.get? S = some { cls := .type "list", dict := none, data := .seq acc c, slots := #[] } → as.length = items.size → EnG items lo h' as →
      acc.toList = as.map Value.ref → R (.ok (.ret res)) { s with heap := h', toks := tk }) :
    ∀ (k i : Nat) (h : Heap) (tk c : Nat) (acc : Array Value) (as : List Addr), items.size - i = k → i ≤ items.size → EnS h e it i → h.IsListIter it l i → h.IsList l items → (∀ b o, b ≠ S → b ≠ e → b ≠ it → h₁.get? b = some o → h.get? b = some o) →
      h.get? S = some { cls := .type "list", dict := none, data := .seq acc c, slots := #[] } → acc.toList = as.map Value.ref → as.length = i → EnG items lo h as → lo < h.objs.size →
      codeAny (model prog w) A (.builtin "list.extend.loop" ⟨[.ref S, .ref e, res], []⟩) R { s with heap := h, toks := tk } := by
  intro k
  induction k with
  | zero =>
    intro i h tk c acc as hk hi hst hit hD hkeep hS hacc hal hG hIs
    have hin : i = items.size := by omega
    refine codeAny_builtin PySem.F.entry_extend_loop ?_
    rw [Around.under_plainId PySem.F.plain_extend_loop _]
    show wpAny _ A.in1 (pyNext (.ref e) >>= _) _ _ _
    refine wpAny_bind (en_pyEnd (s := { s with heap := h, toks := tk }) (A := A.in1) hh hst hit hD (Array.getElem?_eq_none (by omega)) fun h' he => ?_)
    refine wpAny_pure (hR h' tk acc c as (fun b o h1 h2 h3 e' => he b o h3 (hkeep b o h1 h2 h3 e')) (he S _ hni hS) (by omega) ⟨hG.above, fun j a hj => ?_⟩ hacc)
    obtain ⟨t, x, e1, e2⟩ := hG.pairs j a hj
    exact ⟨t, x, e1, he a _ (Nat.ne_of_gt (Nat.lt_of_le_of_lt hilo (hG.above a (List.mem_of_getElem? hj)))) e2⟩
  | succ k ih =>
    intro i h tk c acc as hk hi hst hit hD hkeep hS hacc hal hG hIs
    have hlt : i < items.size := by omega
    obtain ⟨x, hx⟩ : ∃ p, items[i]? = some p := ⟨items[i], Array.getElem?_eq_getElem hlt⟩
    have hsz : acc.size = i := by rw [← Array.length_toList, hacc, List.length_map, hal]
    refine codeAny_builtin PySem.F.entry_extend_loop ?_
    rw [Around.under_plainId PySem.F.plain_extend_loop _]
    show wpAny _ A.in1 (pyNext (.ref e) >>= _) _ _ _
    refine wpAny_bind (en_pyNext (s := { s with heap := h, toks := tk }) hst hit hD hx hei fun h' hst' hit' ht hz hkp => ?_)
    dsimp only at ht hz hkp ⊢
    have hS' := hkp S _ hne hni hS
    have up : ∀ b o, b ≠ S → h'.get? b = some o → (h'.update S (Obj.mapSeq (·.push (Value.ref h.objs.size)))).get? b = some o := fun b o hb e => (Heap.get?_update_other _ _ (Ne.symm hb)).trans e
    have hSl : S < h.objs.size := Heap.lt_size hS
    have hS2 : (h'.update S (Obj.mapSeq (·.push (Value.ref h.objs.size)))).get? S = some _ := Heap.get?_update_self _ hS' rfl
    show wpAny _ A.in1 (updateSeq S (·.push (Value.ref h.objs.size)) >>= _) _ _ _
    refine wpAny_bind ?_
    refine wpAny_updateSeq hS' rfl (wpAny_pure ⟨plainId_quiet PySem.F.plain_extend_loop _, ih (i + 1) _ (tk + 1) _ (acc.push (Value.ref h.objs.size)) (as ++ [h.objs.size]) (by omega) hlt (hst'.keep up (Ne.symm hne) fun o q => ⟨_, hS2⟩)
      (hit'.at fun o q => up it o (Ne.symm hni) q) (hD.at fun o q => up l o hlS (hkp l o hle hli' q))
      (fun b o h1 h2 h3 e' => up b o h1 (hkp b o h2 h3 (hkeep b o h1 h2 h3 e'))) hS2 (by rw [Array.toList_push, hacc, List.map_append]; rfl) (by rw [List.length_append, hal]; rfl) ⟨?_, ?_⟩ ?_⟩) (by rw [hsz]; omega) (by show (acc.push (Value.ref h.objs.size)).size ≤ sizeLine + 1; rw [Array.size_push, hsz]; omega)
    · intro a ha
      rcases List.mem_append.mp ha with ha | ha
      · exact hG.above a ha
      · rw [List.mem_singleton.mp ha]; exact hIs
    · intro j b hj
      rcases Nat.lt_trichotomy j as.length with h1 | h1 | h1
      · rw [List.getElem?_append_left h1] at hj
        obtain ⟨t, x', e1, e2⟩ := hG.pairs j b hj
        have hb := hG.above b (List.mem_of_getElem? hj)
        exact ⟨t, x', e1, up b _ (Nat.ne_of_gt (Nat.lt_of_le_of_lt hSlo hb)) (hkp b _ (Nat.ne_of_gt (Nat.lt_of_le_of_lt helo hb)) (Nat.ne_of_gt (Nat.lt_of_le_of_lt hilo hb)) e2)⟩
      · subst h1
        have hb : h.objs.size = b := by simpa using hj
        subst hb
        exact ⟨tk, x, by rw [hal]; exact hx, up _ _ (Nat.ne_of_gt hSl) (by rw [hal]; exact ht)⟩
      · have hnone : (as ++ [h.objs.size])[j]? = none := List.getElem?_eq_none (by rw [List.length_append, List.length_singleton]; omega)
        rw [hnone] at hj; cases hj
    · have e : (h'.update S (Obj.mapSeq (·.push (Value.ref h.objs.size)))).get? h.objs.size = _ := up _ _ (Nat.ne_of_gt hSl) ht
      exact Nat.lt_trans hIs (Heap.lt_size e)
theorem enum_len : typeLookup (.type "enumerate") "__len__" = pure none := am_miss_of_fast (by first | decide +kernel | rfl)
theorem enum_hint : typeLookup (.type "enumerate") "__length_hint__" = pure none := am_miss_of_fast (by first | decide +kernel | rfl)
theorem en_hint {e : Addr} (hT : s.TypeIs (.ref e) "enumerate") {Q : Bool → Shared → Prop} (h : Q true s) : wpAny (model prog w) A (Builtin.List.listLengthHint (.ref e)) Q E s := by
  unfold Builtin.List.listLengthHint
  refine wpAny_bind (wpAny_specialOf hT enum_len ?_)
  refine wpAny_ite_split (fun hab => absurd hab (by decide)) (fun _ => ?_)
  refine wpAny_ite_split (fun hab => absurd hab (by decide)) (fun _ => ?_)
  refine wpAny_bind (wpAny_specialOf hT enum_hint ?_)
  exact wpAny_pure h
theorem en_iter {e it : Addr} {i : Int} {Q : Value → Shared → Prop} (hT : s.TypeIs (.ref e) "enumerate") (h : Q (.ref e) s) : wpAny (model prog w) A (pyIter (.ref e)) Q E s := by
  refine wpAny_pyIter_slot hT PySem.F.slot_enumerate_iter (wpAny_call_entry PySem.F.slot_enumerate_iter hT PySem.F.entry_enumerate_iter ?_ (PySem.F.args_enumerate_iter_1 _))
  show wpAny _ _ (ret (.ref e)) _ _ s
  exact wpAny_pure ⟨_, rfl, _, _, hT, PySem.F.slot_enumerate_next.lookup, h⟩
theorem EnS.ty {e it : Addr} {i : Int} (he : EnS s.heap e it i) : s.TypeIs (.ref e) "enumerate" := by rcases he with ⟨_, he⟩ | ⟨_, _, _, _, he, _⟩ <;> exact ⟨_, he, rfl⟩
theorem en_extend {R : Result → Shared → Prop} {e it l : Addr} {items : Array Value} (hh : A.handled = none) (hen : EnS s.heap e it 0) (hit : s.heap.IsListIter it l 0) (hl : s.heap.IsList l items) (hei : e ≠ it) (hle : l ≠ e) (hli' : l ≠ it)
    (S : Addr) (hne : S ≠ e) (hni : S ≠ it) (hlS : l ≠ S) (res : Value) (c₀ : Nat) (hS : s.heap.get? S = some { cls := .type "list", data := .seq #[] c₀ })
    (hR : ∀ h' tk acc c as, (∀ b o, b ≠ S → b ≠ e → b ≠ it → s.heap.get? b = some o → h'.get? b = some o) → h'.get? S = some { cls := .type "list", dict := none, data := .seq acc c, slots := #[] } → as.length = items.size → EnG items (s.heap.objs.size - 1) h' as →
      acc.toList = as.map Value.ref → R (.ok (.ret res)) { s with heap := h', toks := tk }) (hn : items.size ≤ sizeLine) :
    wpAny (model prog w) A.in1 (Builtin.List.listExtendWith (.ref S) (.ref e) res)
      (fun fin s' => match fin with | .done f => R (.ok f) s' | .again c' => c'.quiet = true ∧ codeAny (model prog w) A c' R s') (fun e s' => R (.error e) s') s := by
  have hSI : S < s.heap.objs.size := Heap.lt_size hS
  have heI : e < s.heap.objs.size := by rcases hen with ⟨_, he⟩ | ⟨_, _, _, _, he, _⟩ <;> exact Heap.lt_size he
  have hiI : it < s.heap.objs.size := by obtain ⟨o, ho, _⟩ := hit; exact Heap.lt_size ho
  have key : ∀ (h : Heap) (c₁ tk : Nat), (∀ b o, b ≠ S → s.heap.get? b = some o → h.get? b = some o) → s.heap.objs.size ≤ h.objs.size →
      h.get? S = some { cls := .type "list", data := .seq #[] c₁ } → codeAny (model prog w) A (.builtin "list.extend.loop" ⟨[.ref S, .ref e, res], []⟩) R { s with heap := h, toks := tk } := by
    intro h c₁ tk hk hz hS₁
    refine en_loop (items := items) (s := s) (h₁ := s.heap) (lo := s.heap.objs.size - 1) hh (Nat.le_sub_one_of_lt hSI) (Nat.le_sub_one_of_lt heI) (Nat.le_sub_one_of_lt hiI) hne hni hei hlS hle hli' hn res (fun h' tk' acc c as hk' hS' hl' hG hacc => hR h' tk' acc c as hk' hS' hl' hG hacc)
      items.size 0 h tk c₁ #[] [] (Nat.sub_zero _) (Nat.zero_le _) (hen.keep (S := S) hk (Ne.symm hne) fun o q => ⟨_, hS₁⟩) (hit.at fun o q => hk it o (Ne.symm hni) q) (hl.at fun o q => hk l o hlS q) (fun b o hb _ _ e' => hk b o hb e') hS₁ rfl rfl
      ⟨(fun _ ha => nomatch ha), (fun j a hj => by simp at hj)⟩ (Nat.lt_of_lt_of_le (Nat.sub_lt (Nat.lt_of_le_of_lt (Nat.zero_le _) hSI) Nat.one_pos) hz)
  unfold Builtin.List.listExtendWith
  refine wpAny_bind (wpAny_typeOf (T := "enumerate") hen.ty ?_)
  have h1 : Builtin.List.listSameRef (.ref S) (.ref e) = false := by simp [Builtin.List.listSameRef, hne]
  have h2 : (Value.type "enumerate" == Value.type "list") = false := by decide
  have h3 : (Value.type "enumerate" == Value.type "tuple") = false := by decide
  simp only [h1, h2, h3, Bool.or_false, Bool.false_eq_true, if_false]
  refine wpAny_bind (en_iter (it := it) (i := 0) hen.ty ?_)
  refine wpAny_bind (wpAny_holding (en_hint hen.ty ?_))
  refine wpAny_ite_split (fun _ => ?_) (fun _ => wpAny_pure ⟨plainId_quiet PySem.F.plain_extend_loop _, key _ c₀ _ (fun b o _ e => e) (Nat.le_refl _) hS⟩)
  refine wpAny_bind (wpAny_rule ?_)
  refine wpAny_bind ?_
  show wpAny _ _ (updateSeq S (·.push .none) >>= fun _ => updateSeq S (·.pop)) _ _ _
  refine wpAny_bind (wpAny_updateSeq hS rfl ?_)
  have hS₂ := Heap.get?_update_self (Obj.mapSeq (·.push Value.none)) hS rfl
  refine wpAny_updateSeq (hz := by seq_fits) hS₂ rfl ?_
  have hS₃ := Heap.get?_update_self (Obj.mapSeq (·.pop)) hS₂ rfl
  refine wpAny_pure ⟨plainId_quiet PySem.F.plain_extend_loop _, key _ _ _ (fun b o hb e => ?_) (by rw [(Heap.SameBut.update ..).1, (Heap.SameBut.update ..).1]; exact Nat.le_refl _) hS₃⟩
  exact (Heap.get?_update_other _ _ (Ne.symm hb)).trans ((Heap.get?_update_other _ _ (Ne.symm hb)).trans e)
theorem en_init {R : Result → Shared → Prop} {e it l : Addr} {items : Array Value} (hh : A.handled = none) (hen : EnS s.heap e it 0) (hit : s.heap.IsListIter it l 0) (hl : s.heap.IsList l items) (hei : e ≠ it) (hle : l ≠ e) (hli' : l ≠ it)
    (S : Addr) (hne : S ≠ e) (hni : S ≠ it) (hlS : l ≠ S) (hS : s.heap.get? S = some { cls := .type "list", data := .seq #[] })
    (hR : ∀ h' tk acc c as, (∀ b o, b ≠ S → b ≠ e → b ≠ it → s.heap.get? b = some o → h'.get? b = some o) → h'.get? S = some { cls := .type "list", dict := none, data := .seq acc c, slots := #[] } → as.length = items.size → EnG items (s.heap.objs.size - 1) h' as →
      acc.toList = as.map Value.ref → R (.ok (.ret .none)) { s with heap := h', toks := tk }) (hn : items.size ≤ sizeLine) :
    wpAny (model prog w) A.in1 (Builtin.«list.__init__» ⟨[.ref S, .ref e], []⟩)
      (fun fin s' => match fin with | .done f => R (.ok f) s' | .again c' => c'.quiet = true ∧ codeAny (model prog w) A c' R s') (fun e s' => R (.error e) s') s := by
  show wpAny _ _ (do let old ← Builtin.List.listItems (.ref S); Builtin.List.listUpdate (.ref S) (fun _ => #[]); letGo old.toList.reverse; Builtin.List.listExtendWith (.ref S) (.ref e) .none) _ _ s
  refine wpAny_bind ?_
  unfold Builtin.List.listItems
  refine wpAny_bind (wpAny_seqItems hS rfl (wpAny_pure ?_))
  show wpAny _ _ (updateSeq S (fun _ => #[]) >>= fun _ => letGo (#[] : Array Value).toList.reverse >>= fun _ => Builtin.List.listExtendWith (.ref S) (.ref e) .none) _ _ s
  refine wpAny_bind (wpAny_updateSeq hS rfl ?_)
  have hS₂ := Heap.get?_update_self (Obj.mapSeq (fun _ => (#[] : Array Value))) hS rfl
  have hz : (s.heap.update S (Obj.mapSeq (fun _ => (#[] : Array Value)))).objs.size = s.heap.objs.size := (Heap.SameBut.update ..).1
  have oth : ∀ b o, b ≠ S → s.heap.get? b = some o → (s.heap.update S (Obj.mapSeq (fun _ => (#[] : Array Value)))).get? b = some o :=
    fun b o hb e => (Heap.get?_update_other _ _ (Ne.symm hb)).trans e
  refine wpAny_bind (wpAny_letGo ?_)
  refine en_extend (items := items) (l := l) (it := it) hh (hen.keep (S := S) oth (Ne.symm hne) fun o q => ⟨_, hS₂⟩) (hit.at fun o q => oth it o (Ne.symm hni) q) (hl.at fun o q => oth l o hlS q) hei hle hli' S hne hni hlS .none _ hS₂ (fun h' tk acc c as hk hS' hl' hG hacc => ?_) hn
  exact hR h' tk acc c as (fun b o hb h1 h2 e => hk b o hb h1 h2 (oth b o hb e)) hS' hl' (by rw [← hz]; exact hG) hacc
theorem en_call {Q : Value → Shared → Prop} {e it l : Addr} {items : Array Value} (hh : A.handled = none) (hen : EnS s.heap e it 0) (hit : s.heap.IsListIter it l 0) (hl : s.heap.IsList l items) (hei : e ≠ it) (hle : l ≠ e) (hli' : l ≠ it) (hn : items.size ≤ sizeLine)
    (hQ : ∀ h' tk acc c as, (∀ b o, b ≠ e → b ≠ it → s.heap.get? b = some o → h'.get? b = some o) → h'.get? s.heap.objs.size = some { cls := .type "list", dict := none, data := .seq acc c, slots := #[] } → as.length = items.size → EnG items s.heap.objs.size h' as →
      acc.toList = as.map Value.ref → Q (.ref s.heap.objs.size) { s with heap := h', toks := tk }) :
    wpAny (model prog w) A (call (.type "list") [.ref e]) Q E s := by
  refine callType_codes (Q₁ := fun obj s₁ => obj = .ref s.heap.objs.size ∧ s₁ = { s with heap := s.heap.push { cls := .type "list", data := .seq #[] } }) PySem.F.called_list (PySem.F.typeCall_list_1 _) PySem.F.entry_list_init
    (code_list_new _ ⟨rfl, rfl⟩) fun obj s₁ h₁ => ?_
  obtain ⟨rfl, rfl⟩ := h₁
  have hS : (s.heap.push { cls := .type "list", data := .seq #[] }).get? s.heap.objs.size = some { cls := .type "list", data := .seq #[] } := Heap.get?_push_size _ rfl
  have hr : e < s.heap.objs.size := by rcases hen with ⟨_, he⟩ | ⟨_, _, _, _, he, _⟩ <;> exact Heap.lt_size he
  have hi : it < s.heap.objs.size := by obtain ⟨o, ho, _⟩ := hit; exact Heap.lt_size ho
  have hd : l < s.heap.objs.size := by obtain ⟨o, ho, _⟩ := hl; exact Heap.lt_size ho
  have pk : ∀ b o, s.heap.get? b = some o → (s.heap.push { cls := .type "list", data := .seq #[] }).get? b = some o := fun b o q => Heap.get?_push_of_some _ q
  have hz : (s.heap.push { cls := .type "list", data := .seq #[] }).objs.size = s.heap.objs.size + 1 := Heap.size_push ..
  refine ⟨⟨_, hS, rfl⟩, PySem.F.args_list_init_2 _ _, en_init (items := items) (l := l) (it := it) (A := A.in1) hh (hen.keep (S := s.heap.objs.size) (fun b o _ q => pk b o q) (Nat.ne_of_lt hr) fun o q => ⟨_, hS⟩) (hit.at fun o q => pk _ o q) (hl.at fun o q => pk _ o q) hei hle hli'
    _ (Nat.ne_of_gt hr) (Nat.ne_of_gt hi) (Nat.ne_of_lt hd) hS (fun h' tk acc c as hk hS' hl' hG hacc => ?_) hn⟩
  refine ⟨rfl, hQ h' tk acc c as (fun b o h1 h2 e => hk b o (Nat.ne_of_lt (Heap.lt_size e)) h1 h2 (pk b o e)) hS' hl' ?_ hacc⟩
  have ez : (s.heap.push { cls := .type "list", data := .seq #[] }).objs.size - 1 = s.heap.objs.size := by rw [hz]; rfl
  rw [← ez]
  exact hG
end
end L2
set_option Elab.async false
set_option linter.all false
set_option maxRecDepth 100000
namespace L2
open PySem PySem.Spec PyProof.Rows
section
variable {X : Cx} {pins : List (Addr × Obj)} {σ : St} {H H' : Hp} {s : Shared} {h' : Heap}
/-- many new things laid at once -/
theorem Inv.laidMany {t' : Nat} (I : Inv X pins σ H s) (k : ∀ b u, s.heap.get? b = some u → h'.get? b = some u) (hs : ∀ b o, H b = some o → H' b = some o)
    (hn : ∀ b o, H' b = some o → H b = none → s.heap.objs.size ≤ b ∧ ObjOk X.prog X.w H' h' b o) : Inv X pins σ H' { s with heap := h', toks := t' } := by
  refine I.un (h' := h') (t' := t') ⟨fun b u q _ _ _ => k b u q, fun b u q _ _ _ => ⟨u.slots, k b u q⟩, fun b u q n _ => ?_, fun b u q _ => ⟨u, k b u q⟩, fun b xs q => hs b _ q, fun b u xs q => hs b _ q, fun b ps q => ⟨#[], by rw [hs b _ q]; simp⟩⟩ fun b o e => ?_
  · cases e : H' b with
    | none => rfl
    | some o => exact absurd (Heap.lt_size q) (Nat.not_lt_of_le (hn b o e n).1)
  · cases e' : H b with
    | none => exact (hn b o e e').2
    | some o' =>
      have := hs b o' e'
      rw [e] at this; cases this
      exact (I.hok b o e').stay (fun c v _ q => k c v q) (fun c q => hs c _ q) fun c xs q => hs c _ q
/-- the heap H with what the list names laid over it -/
def lay (H : Hp) : List (Addr × HO) → Hp
  | [] => H
  | (a, o) :: r => upd (lay H r) a o
end
def tLE (K : PySem.W.Frag) (ta : TA) : TE := fun σ H Q => ta σ H fun vs H1 => ∃ (a : Addr) (xs : List V), vs = [.ref a] ∧ SqL K H1 a xs ∧ ∀ (l : Addr) (ts : List Addr) (H' : Hp), H1 l = none → (∀ t ∈ ts, H1 t = none) → ts.length = xs.length →
  (∀ b o, H1 b = some o → H' b = some o) → H' l = some (.lst (ts.map V.ref)) → (∀ (j : Nat) (t : Addr), ts[j]? = some t → ∃ x, xs[j]? = some x ∧ H' t = some (.tup [.int j, x])) → Q (.ref l) H'
theorem vals_refs : ∀ as : List Addr, Vals (as.map V.ref) (as.map Value.ref)
  | [] => .nil
  | _ :: as => .cons rfl (vals_refs as)
open Classical in
theorem pe_listEnum {X : Cx} {e : Expr} {ta : TA} {p p2 pos pos2 : Pos} (hc : X.calm = true) (hgl : Gl X "list") (hml : X.mg "list" = none) (hg : Gl X "enumerate") (hm : X.mg "enumerate" = none) (ha : PA X [e] ta)
    (hs : starEach [e] X.env = [(false, eval e X.env)] := by rfl) (hs2 : starEach [Expr.Call (.Name "enumerate" p2) [e] [] pos2] X.env = [(false, eval (Expr.Call (.Name "enumerate" p2) [e] [] pos2) X.env)] := by rfl) :
    PE X (.Call (.Name "list" p) [.Call (.Name "enumerate" p2) [e] [] pos2] [] pos) (tLE X.K ta) := by
  intro pins s σ H Q I h
  refine wpAny_Call_Name_kw (ld_blt (u := .type "list") I hgl hml (by decide +kernel) ?_)
  refine PyProof.Rows.callWith_type1 ?_ hs2 rfl
  rw [hs2]
  show wpAny _ _ (spliced ((false, eval _ X.env) :: backTo pos [])) _ _ s
  refine Calls.spliced_cons (Call_ (ld_blt I hg hm boot_enumerate (PyProof.Rows.callWith_type1 (thn (ha pos2 pins s σ H _ I h) fun us s1 ⟨vs, H1, I1, r1, q1⟩ => ?_) hs rfl)))
  obtain ⟨a, xs, ex, hq, q⟩ := q1
  subst ex
  cases r1 with
  | cons r rr =>
    cases rr
    cases r
    obtain ⟨its, rv, p', hz⟩ := I1.list hq
    have hL := p'.isList
    have hlt : a < s1.heap.objs.size := by obtain ⟨o, ho, _⟩ := hL; exact Heap.lt_size ho
    refine call_enumerate_list hL fun h' he hit hsz hk => Calls.spliced_nil ?_
    have hl : its.toArray.size = xs.length := by rw [List.size_toArray]; exact rv.length.symm
    refine en_call (s := { s1 with heap := h' }) (I.ok.hd hc) (.inl ⟨_, he⟩) hit (hL.at fun o q => hk a o q) (Nat.succ_ne_self _) (Nat.ne_of_lt (Nat.lt_succ_of_lt hlt)) (Nat.ne_of_lt hlt) (by rw [hl]; exact hz) fun h2 tk acc c as hk2 hS hal hG hacc => ?_
    dsimp only at hS hG hk2 ⊢
    have big : s1.heap.objs.size ≤ h'.objs.size := by rw [hsz]; exact Nat.le_add_right _ _
    have hk3 : ∀ b o, s1.heap.get? b = some o → h2.get? b = some o := fun b o q =>
      hk2 b o (Nat.ne_of_lt (Nat.lt_succ_of_lt (Heap.lt_size q))) (Nat.ne_of_lt (Heap.lt_size q)) (hk b o q)
    have lo : ∀ t ∈ as, s1.heap.objs.size ≤ t := fun t ht => Nat.le_trans big (Nat.le_of_lt (hG.above t ht))
    have inj : ∀ (i j : Nat) (t : Addr), as[i]? = some t → as[j]? = some t → i = j := fun i j t hi hj => by
      obtain ⟨_, _, _, e1⟩ := hG.pairs i t hi
      obtain ⟨_, _, _, e2⟩ := hG.pairs j t hj
      rw [e1] at e2
      simp only [Option.some.injEq, Obj.mk.injEq, Data.seq.injEq, Array.mk.injEq, List.cons.injEq, Value.int.injEq] at e2
      omega
    have hlf : H1 h'.objs.size = none := I1.hok.fresh big
    have tf : ∀ t ∈ as, H1 t = none := fun t ht => I1.hok.fresh (lo t ht)
    have lt : ∀ t ∈ as, t ≠ h'.objs.size := fun t ht => Nat.ne_of_gt (hG.above t ht)
    let H2 : Hp := fun b => if b = h'.objs.size then some (.lst (as.map V.ref)) else match H1 b with
      | some o => some o
      | none => if hb : ∃ j : Nat, as[j]? = some b then some (.tup [.int (Classical.choose hb : Nat), xs.getD (Classical.choose hb) .non]) else none
    have old : ∀ b o, H1 b = some o → H2 b = some o := fun b o q => by
      show (if b = h'.objs.size then _ else _) = _
      rw [if_neg (ne_of_none q hlf), q]
    have h2l : H2 h'.objs.size = some (.lst (as.map V.ref)) := if_pos rfl
    have h2t : ∀ (j : Nat) (t : Addr), as[j]? = some t → H2 t = some (.tup [.int (j : Nat), xs.getD j .non]) := fun j t hj => by
      have hm := List.mem_of_getElem? hj
      show (if t = h'.objs.size then _ else _) = _
      rw [if_neg (lt t hm), tf t hm]
      have hb : ∃ j : Nat, as[j]? = some t := ⟨j, hj⟩
      show (if hb : ∃ j : Nat, as[j]? = some t then _ else _) = _
      rw [dif_pos hb, inj _ _ t (Classical.choose_spec hb) hj]
    have new : ∀ b o, H2 b = some o → H1 b = none → (b = h'.objs.size ∧ o = .lst (as.map V.ref)) ∨ ∃ j : Nat, as[j]? = some b ∧ o = .tup [.int (j : Nat), xs.getD j .non] := fun b o q n => by
      by_cases hb : b = h'.objs.size
      · subst hb; rw [h2l] at q; cases q; exact .inl ⟨rfl, rfl⟩
      · have q' : (if b = h'.objs.size then some (HO.lst (as.map V.ref)) else match H1 b with
          | some o => some o
          | none => if hb : ∃ j : Nat, as[j]? = some b then some (HO.tup [.int (Classical.choose hb : Nat), xs.getD (Classical.choose hb) .non]) else none) = some o := q
        rw [if_neg hb, n] at q'
        by_cases z : ∃ j : Nat, as[j]? = some b
        · obtain ⟨j, hj⟩ := id z
          have := h2t j b hj
          rw [this] at q; cases q
          exact .inr ⟨j, hj, rfl⟩
        · have q2 : (if hb : ∃ j : Nat, as[j]? = some b then some (HO.tup [.int (Classical.choose hb : Nat), xs.getD (Classical.choose hb) .non]) else none) = some o := q'
          rw [dif_neg z] at q2; cases q2
    have hxs : ∀ (j : Nat) (t : Addr), as[j]? = some t → ∃ x, xs[j]? = some x ∧ xs.getD j .non = x := fun j t hj => by
      have hjl : j < xs.length := by
        have := (List.getElem?_eq_some_iff.mp hj).1
        omega
      exact ⟨xs[j], List.getElem?_eq_getElem hjl, by rw [List.getD_eq_getElem?_getD, List.getElem?_eq_getElem hjl]; rfl⟩
    have I2 : Inv X pins σ H2 { s1 with heap := h2, toks := tk } := I1.laidMany hk3 old fun b o q n => by
      rcases new b o q n with ⟨rfl, rfl⟩ | ⟨j, hj, rfl⟩
      · refine ⟨big, ?_, acc.toList, c, ?_, by rw [Array.toArray_toList]; exact hS⟩
        · rw [List.length_map, hal, hl]; exact hz
        · rw [hacc]
          exact vals_refs as
      · obtain ⟨t, x, e1, e2⟩ := hG.pairs j b hj
        refine ⟨lo b (List.mem_of_getElem? hj), by show 2 ≤ sizeLine; decide, [.int j t, x], .cons ⟨_, rfl⟩ (.cons ?_ .nil), ⟨_, e2, rfl, _, rfl⟩⟩
        obtain ⟨y, hy, ey⟩ := hxs j b hj
        rw [ey]
        obtain ⟨u, hu, ru⟩ := rv.get hy
        rw [List.getElem?_toArray, hu] at e1
        cases e1
        exact ru
    refine ⟨.ref h'.objs.size, H2, I2, rfl, q _ as _ hlf tf (hal.trans hl) old h2l fun j t hj => ?_⟩
    obtain ⟨y, hy, ey⟩ := hxs j t hj
    exact ⟨y, hy, by rw [h2t j t hj, ey]⟩
end L2
set_option Elab.async false
set_option linter.all false
set_option maxRecDepth 100000
namespace L2
open PySem PySem.Spec PyProof.Rows
def revS (z : Str) : Str := ⟨z.cps.toList.reverse.toArray⟩
theorem revS_length (z : Str) : (revS z).length = z.length := by
  show (z.cps.toList.reverse.toArray).size = z.cps.size
  simp
theorem rev_idx (n : Nat) : Builtin.Str.strSliceIndices none none (-1) n = (List.range n).map fun k => n - 1 - k := by
  unfold Builtin.Str.strSliceIndices sliceRange
  have e0 : ¬ ((-1 : Int) > 0) := by decide
  simp only [if_neg e0]
  have e1 : (if (n : Int) - 1 > -1 then ((n : Int) - 1 - -1 - -1 - 1) / (- -1) else 0) = (n : Int) := by
    by_cases h : (n : Int) - 1 > -1
    · rw [if_pos h, show (- -1 : Int) = 1 from rfl, Int.ediv_one]; omega
    · rw [if_neg h]; omega
  rw [e1, Int.toNat_natCast]
  refine List.map_congr_left fun k hk => ?_
  have := List.mem_range.mp hk
  omega
theorem fm_congr {α β : Type} {f g : α → Option β} : ∀ {l : List α}, (∀ a ∈ l, f a = g a) → l.filterMap f = l.filterMap g
  | [], _ => rfl
  | a :: l, h => by
    rw [List.filterMap_cons, List.filterMap_cons, h a (List.mem_cons_self ..), fm_congr fun b hb => h b (List.mem_cons_of_mem _ hb)]
theorem rev_pick (z : Str) : ((List.range z.length).map fun k => z.length - 1 - k).filterMap (z.cps[·]?) = z.cps.toList.reverse := by
  rw [List.filterMap_map]
  have key : ∀ (l : List Nat), (List.range l.length).filterMap ((fun x => l[x]?) ∘ fun k => l.length - 1 - k) = l.reverse := by
    intro l
    have e : ∀ k ∈ List.range l.length, ((fun x => l[x]?) ∘ fun k => l.length - 1 - k) k = some (l.reverse.getD k 0) := by
      intro k hk
      have hk' := List.mem_range.mp hk
      show l[l.length - 1 - k]? = _
      rw [List.getD_eq_getElem?_getD, List.getElem?_reverse hk']
      rw [List.getElem?_eq_getElem (by omega)]
      rfl
    rw [fm_congr e]
    rw [List.filterMap_eq_map']
    refine List.ext_getElem (by simp) fun i h1 h2 => ?_
    simp at h1 h2 ⊢
    rw [List.getElem?_eq_getElem (by simpa using h2)]
    simp
  have := key z.cps.toList
  rw [Array.length_toList] at this
  rw [← this]
  refine fm_congr fun k _ => ?_
  show z.cps[_]? = z.cps.toList[_]?
  rw [Array.getElem?_toList] <;> rfl
def tRevS (te : TE) : TE := fun σ H Q => te σ H fun x H1 => ∃ z, x = .str z ∧ z.length ≤ sizeLine ∧ Q (.str (revS z)) H1
section
variable {X : Cx} {e : Expr} {te : TE}
theorem pe_revS {k : Nat} {p1 p2 p3 pos : Pos} (he : PE X e te) : PE X (.Subscript e (.Slice none none (some (.UnaryOp .USub (.Constant (.int 1) k p1) p3)) p2) pos) (tRevS te) := by
  intro pins s σ H Q I h
  refine Subscript_ (thn (he pins s σ H _ I h) fun v s1 ⟨x, H1, I1, r1, q1⟩ => ?_)
  obtain ⟨z, rfl, hz, q⟩ := q1
  obtain ⟨t, rfl⟩ := r1
  refine wpAny_Slice ?_
  rw [evalPart_none]
  refine wpAny_pure (wpAny_pure ?_)
  rw [evalPart_some]
  refine thn (pe_un un_neg pe_int pins s1 σ H1 (fun x H' => x = .int (-1) ∧ H' = H1) I1 ⟨1, rfl, rfl, rfl⟩) fun u s2 ⟨x2, H2, I2, r2, e2, e3⟩ => ?_
  subst e2 e3
  obtain ⟨t2, rfl⟩ := r2
  have I4 : Inv X pins σ H2 { s2 with heap := s2.heap.push { cls := .type "slice", data := .fields #[.none, .none, .int (-1) t2] } } := I2.kept (t' := s2.toks) fun b ob q => Heap.get?_push_of_some _ q
  show wpAny (model X.prog X.w) X.A (subscriptTail e _ (.str z t) (.ref s2.heap.objs.size)) (EP X pins σ Q) X.xe _
  refine tail_any (ops := [.ref s2.heap.objs.size, .str z t]) (typeIs_str _ _ _) F.slot_str_getitem.lookup ?_ (by with_unfolding_all rfl)
  refine wpAny_getItem_str_slice (l := none) (u := none) (st := some (-1, t2)) ⟨_, Heap.get?_push_size _ rfl, rfl, rfl⟩ rfl ?_
  show Made.post (if ((-1 : Int) == 1 && _) = true then _ else Made.str ⟨((Builtin.Str.strSliceIndices none none (-1) z.length).filterMap (z.cps[·]?)).toArray⟩) (EP X pins σ Q) _
  rw [if_neg (by simp), rev_idx, rev_pick]
  exact ⟨by show (revS z).length ≤ sizeLine; rw [revS_length]; exact hz, .str _, H2, I4.tok _, ⟨_, rfl⟩, q⟩
def mulS (z : Str) (n : Int) : Str := ⟨(List.replicate n.toNat z.cps.toList).flatten.toArray⟩
theorem mulS_eq (z : Str) (n : Int) : Txt.mul z n = mulS z n := by
  unfold Txt.mul mulS
  by_cases h : n < 1
  · rw [if_pos h]
    have e : n.toNat = 0 := by omega
    rw [e]; rfl
  · rw [if_neg h]
    by_cases h2 : (n == 1 || z.length == 0) = true
    · rw [if_pos h2]
      rcases Bool.or_eq_true_iff.mp h2 with h3 | h3
      · have e : n = 1 := by simpa using h3
        subst e
        show z = ⟨(z.cps.toList ++ []).toArray⟩
        rw [List.append_nil]
      · have e : z.cps = #[] := by
          have : z.cps.size = 0 := by have h4 : z.length = 0 := by simpa using h3
                                      exact h4
          exact Array.eq_empty_of_size_eq_zero this
        have e2 : ∀ k : Nat, (List.replicate k ([] : List Nat)).flatten = [] := fun k => by induction k with
          | zero => rfl
          | succ k ih => rw [List.replicate_succ, List.flatten_cons, ih]; rfl
        cases z with
        | mk c =>
          cases e
          show _ = Str.mk (List.replicate n.toNat []).flatten.toArray
          rw [e2]
    · rw [if_neg h2]
      congr 1
      have key : ∀ (k : Nat) (acc : Array Nat), (List.replicate k z.cps).foldl (· ++ ·) acc = acc ++ (List.replicate k z.cps.toList).flatten.toArray := by
        intro k
        induction k with
        | zero => intro acc; simp
        | succ k ih =>
          intro acc
          rw [List.replicate_succ, List.foldl_cons, ih, List.replicate_succ, List.flatten_cons]
          rw [Array.append_assoc]
          congr 1
          exact Array.toList_inj.mp (by simp)
      rw [key]; simp
theorem mulS_length (z : Str) (n : Int) : (mulS z n).length = n.toNat * z.length := by
  show (List.replicate n.toNat z.cps.toList).flatten.toArray.size = _
  rw [List.size_toArray, len_rep, Array.length_toList]; rfl
def rMulS : R2 := fun x y H Q => ∃ z n, x = .str z ∧ y = .int n ∧ n < 1000000 ∧ -1000000 < n ∧ z.length * n.toNat ≤ 1000000 ∧ Q (.str (mulS z n)) H
theorem op_mulS : OpR X (binaryOp .Mult) rMulS := by
  intro pins s σ H x y v u Q I rx ry h
  obtain ⟨z, n, rfl, rfl, h1, h1', h2, q⟩ := h
  obtain ⟨t, rfl⟩ := rx
  obtain ⟨t', rfl⟩ := ry
  refine PySem.SB.mul ⟨?_, fun hn _ => ?_, fun _ _ => ?_⟩ fun t' k => ⟨.str _, H, I.tok _, ⟨_, rfl⟩, by rw [mulS_eq]; exact q⟩
  · simp only [Bool.or_eq_false_iff, decide_eq_false_iff_not]
    exact ⟨by omega, by omega⟩
  · intro hc
    have hn0 : 0 < n := by omega
    have : (2 ^ 63 - 1 : Int) / n < z.length := hc
    have h3 : (2 ^ 63 - 1 : Int) < z.length * n := by
      have := (Int.ediv_lt_iff_lt_mul hn0).mp this
      exact this
    have h4 : ((z.length * n.toNat : Nat) : Int) = z.length * n := by
      rw [Int.natCast_mul, Int.toNat_of_nonneg (by omega)]
    have h5 : ((z.length * n.toNat : Nat) : Int) ≤ 1000000 := Int.ofNat_le.mpr h2
    rw [h4] at h5
    have : (2 ^ 63 - 1 : Int) = 9223372036854775807 := by decide
    omega
  · unfold Builtin.Str.tooLong
    simp only [decide_eq_false_iff_not]
    rw [sizeLine_eq]
    omega
end
end L2
set_option Elab.async false
set_option linter.all false
set_option maxRecDepth 100000
namespace L2
open PySem PySem.Spec PyProof.Rows
inductive IsI (K : PySem.W.Frag) (H : Hp) : V → String → Bool → Prop
  | i_int i : IsI K H (.int i) "int" true
  | i_bool i : IsI K H (.int i) "bool" false
  | i_str i : IsI K H (.int i) "str" false
  | i_list i : IsI K H (.int i) "list" false
  | i_tuple i : IsI K H (.int i) "tuple" false
  | i_dict i : IsI K H (.int i) "dict" false
  | b_int i : IsI K H (.bl i) "int" true
  | b_bool i : IsI K H (.bl i) "bool" true
  | b_str i : IsI K H (.bl i) "str" false
  | b_list i : IsI K H (.bl i) "list" false
  | b_tuple i : IsI K H (.bl i) "tuple" false
  | b_dict i : IsI K H (.bl i) "dict" false
  | s_int i : IsI K H (.str i) "int" false
  | s_bool i : IsI K H (.str i) "bool" false
  | s_str i : IsI K H (.str i) "str" true
  | s_list i : IsI K H (.str i) "list" false
  | s_tuple i : IsI K H (.str i) "tuple" false
  | s_dict i : IsI K H (.str i) "dict" false
  | n_int : IsI K H .non "int" false
  | n_bool : IsI K H .non "bool" false
  | n_str : IsI K H .non "str" false
  | n_list : IsI K H .non "list" false
  | n_tuple : IsI K H .non "tuple" false
  | n_dict : IsI K H .non "dict" false
  | lr_int a xs (h : SqL K H a xs) : IsI K H (.ref a) "int" false
  | lr_bool a xs (h : SqL K H a xs) : IsI K H (.ref a) "bool" false
  | lr_str a xs (h : SqL K H a xs) : IsI K H (.ref a) "str" false
  | lr_list a xs (h : SqL K H a xs) : IsI K H (.ref a) "list" true
  | lr_tuple a xs (h : SqL K H a xs) : IsI K H (.ref a) "tuple" false
  | lr_dict a xs (h : SqL K H a xs) : IsI K H (.ref a) "dict" false
  | tr_int a xs (h : SqT K H a xs) : IsI K H (.ref a) "int" false
  | tr_bool a xs (h : SqT K H a xs) : IsI K H (.ref a) "bool" false
  | tr_str a xs (h : SqT K H a xs) : IsI K H (.ref a) "str" false
  | tr_list a xs (h : SqT K H a xs) : IsI K H (.ref a) "list" false
  | tr_tuple a xs (h : SqT K H a xs) : IsI K H (.ref a) "tuple" true
  | tr_dict a xs (h : SqT K H a xs) : IsI K H (.ref a) "dict" false
  | dr_int a kvs (h : Rd H a (.dK kvs)) : IsI K H (.ref a) "int" false
  | dr_bool a kvs (h : Rd H a (.dK kvs)) : IsI K H (.ref a) "bool" false
  | dr_str a kvs (h : Rd H a (.dK kvs)) : IsI K H (.ref a) "str" false
  | dr_list a kvs (h : Rd H a (.dK kvs)) : IsI K H (.ref a) "list" false
  | dr_tuple a kvs (h : Rd H a (.dK kvs)) : IsI K H (.ref a) "tuple" false
  | dr_dict a kvs (h : Rd H a (.dK kvs)) : IsI K H (.ref a) "dict" true
def rIsi (K : PySem.W.Frag) : List V → Hp → VK → Prop := fun xs H Q => ∃ x T b, xs = [x, .ty T] ∧ IsI K H x T b ∧ Q (.bl b) H
theorem cr_isi {X : Cx} : CallR X (.builtin "isinstance") (rIsi X.K) := by
  intro pins s σ H xs us Q I r h
  obtain ⟨x, T, b, rfl, k, q⟩ := h
  obtain ⟨u, w', rfl, r1, r2⟩ := vals2 r
  cases r2
  cases k with
  | i_int => obtain ⟨t, rfl⟩ := r1; exact IsiPair.int_int ⟨.bl true, H, I, rfl, q⟩
  | i_bool => obtain ⟨t, rfl⟩ := r1; exact IsiPair.int_bool ⟨.bl false, H, I.tok _, rfl, q⟩
  | i_str => obtain ⟨t, rfl⟩ := r1; exact IsiPair.int_str ⟨.bl false, H, I.tok _, rfl, q⟩
  | i_list => obtain ⟨t, rfl⟩ := r1; exact IsiPair.int_list ⟨.bl false, H, I.tok _, rfl, q⟩
  | i_tuple => obtain ⟨t, rfl⟩ := r1; exact IsiPair.int_tuple ⟨.bl false, H, I.tok _, rfl, q⟩
  | i_dict => obtain ⟨t, rfl⟩ := r1; exact IsiPair.int_dict ⟨.bl false, H, I.tok _, rfl, q⟩
  | b_int => cases r1; exact IsiPair.bool_int ⟨.bl true, H, I, rfl, q⟩
  | b_bool => cases r1; exact IsiPair.bool_bool ⟨.bl true, H, I, rfl, q⟩
  | b_str => cases r1; exact IsiPair.bool_str ⟨.bl false, H, I.tok _, rfl, q⟩
  | b_list => cases r1; exact IsiPair.bool_list ⟨.bl false, H, I.tok _, rfl, q⟩
  | b_tuple => cases r1; exact IsiPair.bool_tuple ⟨.bl false, H, I.tok _, rfl, q⟩
  | b_dict => cases r1; exact IsiPair.bool_dict ⟨.bl false, H, I.tok _, rfl, q⟩
  | s_int => obtain ⟨t, rfl⟩ := r1; exact IsiPair.str_int ⟨.bl false, H, I.tok _, rfl, q⟩
  | s_bool => obtain ⟨t, rfl⟩ := r1; exact IsiPair.str_bool ⟨.bl false, H, I.tok _, rfl, q⟩
  | s_str => obtain ⟨t, rfl⟩ := r1; exact IsiPair.str_str ⟨.bl true, H, I, rfl, q⟩
  | s_list => obtain ⟨t, rfl⟩ := r1; exact IsiPair.str_list ⟨.bl false, H, I.tok _, rfl, q⟩
  | s_tuple => obtain ⟨t, rfl⟩ := r1; exact IsiPair.str_tuple ⟨.bl false, H, I.tok _, rfl, q⟩
  | s_dict => obtain ⟨t, rfl⟩ := r1; exact IsiPair.str_dict ⟨.bl false, H, I.tok _, rfl, q⟩
  | n_int => cases r1; exact IsiPair.NoneType_int ⟨.bl false, H, I.tok _, rfl, q⟩
  | n_bool => cases r1; exact IsiPair.NoneType_bool ⟨.bl false, H, I.tok _, rfl, q⟩
  | n_str => cases r1; exact IsiPair.NoneType_str ⟨.bl false, H, I.tok _, rfl, q⟩
  | n_list => cases r1; exact IsiPair.NoneType_list ⟨.bl false, H, I.tok _, rfl, q⟩
  | n_tuple => cases r1; exact IsiPair.NoneType_tuple ⟨.bl false, H, I.tok _, rfl, q⟩
  | n_dict => cases r1; exact IsiPair.NoneType_dict ⟨.bl false, H, I.tok _, rfl, q⟩
  | lr_int a xs h => cases r1; obtain ⟨its, _, pl, _⟩ := I.list h; obtain ⟨o, hx, hc, _⟩ := pl.isList; exact IsiPair.list_int hx hc ⟨.bl false, H, I.tok _, rfl, q⟩
  | lr_bool a xs h => cases r1; obtain ⟨its, _, pl, _⟩ := I.list h; obtain ⟨o, hx, hc, _⟩ := pl.isList; exact IsiPair.list_bool hx hc ⟨.bl false, H, I.tok _, rfl, q⟩
  | lr_str a xs h => cases r1; obtain ⟨its, _, pl, _⟩ := I.list h; obtain ⟨o, hx, hc, _⟩ := pl.isList; exact IsiPair.list_str hx hc ⟨.bl false, H, I.tok _, rfl, q⟩
  | lr_list a xs h => cases r1; obtain ⟨its, _, pl, _⟩ := I.list h; obtain ⟨o, hx, hc, _⟩ := pl.isList; exact IsiPair.list_list hx hc ⟨.bl true, H, I, rfl, q⟩
  | lr_tuple a xs h => cases r1; obtain ⟨its, _, pl, _⟩ := I.list h; obtain ⟨o, hx, hc, _⟩ := pl.isList; exact IsiPair.list_tuple hx hc ⟨.bl false, H, I.tok _, rfl, q⟩
  | lr_dict a xs h => cases r1; obtain ⟨its, _, pl, _⟩ := I.list h; obtain ⟨o, hx, hc, _⟩ := pl.isList; exact IsiPair.list_dict hx hc ⟨.bl false, H, I.tok _, rfl, q⟩
  | tr_int a xs h => cases r1; obtain ⟨its, _, ⟨o, hx, hc, _⟩, _⟩ := I.tuple h; exact IsiPair.tuple_int hx hc ⟨.bl false, H, I.tok _, rfl, q⟩
  | tr_bool a xs h => cases r1; obtain ⟨its, _, ⟨o, hx, hc, _⟩, _⟩ := I.tuple h; exact IsiPair.tuple_bool hx hc ⟨.bl false, H, I.tok _, rfl, q⟩
  | tr_str a xs h => cases r1; obtain ⟨its, _, ⟨o, hx, hc, _⟩, _⟩ := I.tuple h; exact IsiPair.tuple_str hx hc ⟨.bl false, H, I.tok _, rfl, q⟩
  | tr_list a xs h => cases r1; obtain ⟨its, _, ⟨o, hx, hc, _⟩, _⟩ := I.tuple h; exact IsiPair.tuple_list hx hc ⟨.bl false, H, I.tok _, rfl, q⟩
  | tr_tuple a xs h => cases r1; obtain ⟨its, _, ⟨o, hx, hc, _⟩, _⟩ := I.tuple h; exact IsiPair.tuple_tuple hx hc ⟨.bl true, H, I, rfl, q⟩
  | tr_dict a xs h => cases r1; obtain ⟨its, _, ⟨o, hx, hc, _⟩, _⟩ := I.tuple h; exact IsiPair.tuple_dict hx hc ⟨.bl false, H, I.tok _, rfl, q⟩
  | dr_int a kvs h => cases r1; obtain ⟨_, _, _, _, o, _, _, hx, ex, _⟩ := h.ok I.hok; exact IsiPair.dict_int hx ex.1 ⟨.bl false, H, I.tok _, rfl, q⟩
  | dr_bool a kvs h => cases r1; obtain ⟨_, _, _, _, o, _, _, hx, ex, _⟩ := h.ok I.hok; exact IsiPair.dict_bool hx ex.1 ⟨.bl false, H, I.tok _, rfl, q⟩
  | dr_str a kvs h => cases r1; obtain ⟨_, _, _, _, o, _, _, hx, ex, _⟩ := h.ok I.hok; exact IsiPair.dict_str hx ex.1 ⟨.bl false, H, I.tok _, rfl, q⟩
  | dr_list a kvs h => cases r1; obtain ⟨_, _, _, _, o, _, _, hx, ex, _⟩ := h.ok I.hok; exact IsiPair.dict_list hx ex.1 ⟨.bl false, H, I.tok _, rfl, q⟩
  | dr_tuple a kvs h => cases r1; obtain ⟨_, _, _, _, o, _, _, hx, ex, _⟩ := h.ok I.hok; exact IsiPair.dict_tuple hx ex.1 ⟨.bl false, H, I.tok _, rfl, q⟩
  | dr_dict a kvs h => cases r1; obtain ⟨_, _, _, _, o, _, _, hx, ex, _⟩ := h.ok I.hok; exact IsiPair.dict_dict hx ex.1 ⟨.bl true, H, I, rfl, q⟩
end L2
set_option Elab.async false
set_option linter.all false
set_option maxRecDepth 100000
namespace L2
open PySem PySem.Spec PyProof.Rows
section
variable {prog : Program} {w : World} {A : Around} {E : Value → Shared → Prop} {s : Shared}
def rriObj (j : Int) : Obj := { cls := .type "range_iterator", data := .fields #[rawInt (j - 1), rawInt j, rawInt (-1)] }
end
def iRevR (ta : TA) : TI := fun σ H R => ta σ H fun vs H1 => ∃ j : Int, vs = [.int j] ∧ 0 ≤ j ∧ j < 2 ^ 62 ∧ R (Itc (j - 1) (-1) j.toNat) H1
end L2
set_option Elab.async false
set_option linter.all false
set_option maxRecDepth 100000
namespace L2
open PySem PySem.Spec PyProof.Rows
structure Callee (P : Program) (w : World) (K : PySem.W.Frag) (mg : Str → Option Value) (base : Heap) (k : Nat) (x : Str) (ps : List Str) (sp : Sp) where
  f : Addr
  fd : FuncData
  ok : FnOk P w K mg base CX0 k f fd ps sp
  at_ : mg x = some (.ref f)
  kp : PySem.W.keepIn K (.ref f) = true
  bd : Binds K fd ps []
theorem pe_callC {X : Cx} {j k : Nat} {x : Str} {ps : List Str} {sp : Sp} {e : Expr} {es : List Expr} {t : TA} {p pos : Pos} (C : Callee X.prog X.w X.K X.mg X.base k x ps sp) (hr : Room j X.A) (hg : Gl X x) (ha : PA X (e :: es) t) (hk : k ≤ j := by decide)
    (hdb : (x == ("__debug__" : Str)) = false := by decide) (he : starEach (e :: es) X.env = (false, eval e X.env) :: starEach es X.env := by rfl) (hpl : (backTo pos (starEach es X.env)).any (·.1) = false := by rfl) :
    PE X (.Call (.Name x p) (e :: es) [] pos) (tCall sp [] E0 t) := pe_call C.ok (hr.mono hk) hg C.at_ C.kp C.bd .nil pass0 ha hdb he hpl
/-- what the text doesn't name itself -/
structure Glb (mg : Str → Option Value) : Prop where
  m_range : mg "range" = none
  m_len : mg "len" = none
  m_max : mg "max" = none
  m_min : mg "min" = none
  m_int : mg "int" = none
  m_bool : mg "bool" = none
  m_str : mg "str" = none
  m_list : mg "list" = none
  m_tuple : mg "tuple" = none
  m_dict : mg "dict" = none
  m_set : mg "set" = none
  m_sum : mg "sum" = none
  m_sorted : mg "sorted" = none
  m_enumerate : mg "enumerate" = none
  m_isinstance : mg "isinstance" = none
  m_reversed : mg "reversed" = none
  m_repr : mg "repr" = none
  m_all : mg "all" = none
  m_zip : mg "zip" = none
theorem Glb.mk_ {K : PySem.W.Frag} {h : Heap} {mg : Str → Option Value} (X : K.In h) (G : h.Ns mainGlobals mg)
    (a1 : PySem.W.nsIn K mainGlobals "range" = some none) (a2 : PySem.W.nsIn K mainGlobals "len" = some none) (a3 : PySem.W.nsIn K mainGlobals "max" = some none) (a4 : PySem.W.nsIn K mainGlobals "min" = some none)
    (a5 : PySem.W.nsIn K mainGlobals "int" = some none) (a6 : PySem.W.nsIn K mainGlobals "bool" = some none) (a7 : PySem.W.nsIn K mainGlobals "str" = some none) (a8 : PySem.W.nsIn K mainGlobals "list" = some none)
    (a9 : PySem.W.nsIn K mainGlobals "tuple" = some none) (a10 : PySem.W.nsIn K mainGlobals "dict" = some none) (a11 : PySem.W.nsIn K mainGlobals "set" = some none) (a12 : PySem.W.nsIn K mainGlobals "sum" = some none)
    (a13 : PySem.W.nsIn K mainGlobals "sorted" = some none) (a14 : PySem.W.nsIn K mainGlobals "enumerate" = some none) (a15 : PySem.W.nsIn K mainGlobals "isinstance" = some none) (a16 : PySem.W.nsIn K mainGlobals "reversed" = some none)
    (a17 : PySem.W.nsIn K mainGlobals "repr" = some none) (a18 : PySem.W.nsIn K mainGlobals "all" = some none) (a19 : PySem.W.nsIn K mainGlobals "zip" = some none) : Glb mg :=
  ⟨PySem.W.mg_none_of X G a1, PySem.W.mg_none_of X G a2, PySem.W.mg_none_of X G a3, PySem.W.mg_none_of X G a4, PySem.W.mg_none_of X G a5, PySem.W.mg_none_of X G a6, PySem.W.mg_none_of X G a7, PySem.W.mg_none_of X G a8, PySem.W.mg_none_of X G a9,
   PySem.W.mg_none_of X G a10, PySem.W.mg_none_of X G a11, PySem.W.mg_none_of X G a12, PySem.W.mg_none_of X G a13, PySem.W.mg_none_of X G a14, PySem.W.mg_none_of X G a15, PySem.W.mg_none_of X G a16, PySem.W.mg_none_of X G a17, PySem.W.mg_none_of X G a18, PySem.W.mg_none_of X G a19⟩
def tCut (t : TS) : TS := fun D σ H => ∃ R : St → Hp → Prop, t { D with nx := R } σ H ∧ ∀ σ' H', R σ' H' → D.nx σ' H'
theorem ps_cut {X : Cx} {st : Stmt} {t : TS} (h : PS X st t) : PS X st (tCut t) := by
  intro pins s σ H D I hq
  obtain ⟨R, h1, h2⟩ := hq
  refine thn (h pins s σ H _ I h1) fun fl s' q => ?_
  cases fl with
  | next => obtain ⟨σ', H', I', q⟩ := q; exact ⟨σ', H', I', h2 _ _ q⟩
  | _ => exact q
def tCutE (t : TE) : TE := fun σ H Q => ∃ R : VK, t σ H R ∧ ∀ v H', R v H' → Q v H'
theorem pe_cut {X : Cx} {e : Expr} {t : TE} (h : PE X e t) : PE X e (tCutE t) := by
  intro pins s σ H Q I hq
  obtain ⟨R, h1, h2⟩ := hq
  exact thn (h pins s σ H _ I h1) fun u s' ⟨v, H', I', r, q⟩ => ⟨v, H', I', r, h2 _ _ q⟩
def Kp (p : Addr) (H H' : Hp) : Prop := ∀ b o, H b = some o → b ≠ p → H' b = some o
theorem Kp.refl (p : Addr) (H : Hp) : Kp p H H := fun _ _ h _ => h
theorem Kp.trans {p : Addr} {H H1 H2 : Hp} (a : Kp p H H1) (b : Kp p H1 H2) : Kp p H H2 := fun c o h n => b c o (a c o h n) n
theorem Same.kp {H H' : Hp} (s : Same H H') (p : Addr) : Kp p H H' := fun b o h _ => s b o h
theorem Kp.new {p : Addr} {H H1 : Hp} (a : Kp p H H1) {q : Addr} {o : HO} (h : H1 q = none) : Kp p H (upd H1 q o) := fun b u e n => by
  have := a b u e n
  rw [upd_ne (ne_of_none this h)]; exact this
theorem Kp.set {p : Addr} {H H1 : Hp} (a : Kp p H H1) {o : HO} : Kp p H (upd H1 p o) := fun b u e n => by
  rw [upd_ne n]; exact a b u e n
/-- a new thing changed again -/
theorem Kp.over {p : Addr} {H H1 : Hp} (a : Kp p H H1) {q : Addr} {o : HO} (h : H q = none) : Kp p H (upd H1 q o) := fun b u e n => by
  rw [upd_ne (ne_of_none e h)]; exact a b u e n
theorem same_new {H : Hp} {p : Addr} (h : H p = none) (o : HO) : Same H (upd H p o) := fun b u q => by rw [upd_ne (ne_of_none q h)]; exact q
theorem Kp.seq {K : PySem.W.Frag} {p : Addr} {H H' : Hp} {a : Addr} {xs : List V} (e : Kp p H H') (hp : ∃ o, H p = some o ∧ Mut (some o)) (hne : a ≠ p) (h : SqL K H a xs) : SqL K H' a xs := by
  rcases h with (h | ⟨o, h⟩) | h
  · exact .inl (.inl (e _ _ h hne))
  · exact .inl (.inr ⟨o, e _ _ h hne⟩)
  · exact .inr h
structure HandAt (H : Hp) (p : Addr) : Prop where
  ex : ∃ d r : Int, H p = some (.lst [.int d, .int r]) ∧ 0 ≤ d ∧ 0 ≤ r ∧ r < 2147483587
theorem HandAt.kp {H H' : Hp} {p q : Addr} (h : HandAt H p) (k : Kp q H H') (n : p ≠ q) : HandAt H' p := by
  obtain ⟨d, r, e, z⟩ := h.ex
  exact ⟨d, r, k _ _ e n, z⟩
theorem HandAt.same {H H' : Hp} {p : Addr} (h : HandAt H p) (k : Same H H') : HandAt H' p := by
  obtain ⟨d, r, e, z⟩ := h.ex
  exact ⟨d, r, k _ _ e, z⟩
theorem HandAt.new {H : Hp} {p q : Addr} {o : HO} (h : HandAt H p) (n : H q = none) : HandAt (upd H q o) p := h.same (same_new n o)
theorem HandAt.ne {H : Hp} {p q : Addr} (h : HandAt H p) (n : H q = none) : q ≠ p := by
  obtain ⟨d, r, e, z⟩ := h.ex
  exact (ne_of_none e n).symm
theorem Kp.free {p : Addr} {H H' : Hp} (k : Kp p H H') (h : HandAt H' p) {q : Addr} (n : H' q = none) : H q = none := by
  cases e : H q with
  | none => rfl
  | some o =>
    have := k q o e (h.ne n)
    rw [n] at this; cases this
/-- a frozen or untracked thing is no hand -/
theorem HandAt.neL {K : PySem.W.Frag} {H : Hp} {p a : Addr} (h : HandAt H p) (o : Obj) (u : HO) (e : H a = some (.frz o u)) : a ≠ p := by
  obtain ⟨d, r, e', z⟩ := h.ex
  exact ne_of e e' (by intro z; cases z)
def spDraw : Sp := fun vs H Q _ => ∃ (p : Addr) (L : Int), vs = [.ref p, .int L] ∧ HandAt H p ∧ 0 < L ∧ L < 1073741824 ∧ ∀ (v : Int) (H' : Hp), 0 ≤ v → v < L → HandAt H' p → Kp p H H' → Q (.int v) H'
def spHand : Sp := fun vs H Q _ => ∃ c k : Int, vs = [.int c, .int k] ∧ ∀ (p : Addr) (H' : Hp), H p = none → HandAt H' p → Same H H' → Q (.ref p) H'
def spCells (K : PySem.W.Frag) : Sp := fun vs H Q _ => ∃ (a : Addr) (ns : List Int) (m : Int), vs = [.ref a, .int m] ∧ SqL K H a (ns.map V.int) ∧ ns.length ≤ 63 ∧ 0 ≤ m ∧ ∀ (l : Addr) (ts : List Addr) (H' : Hp), Same H H' → H l = none → H' l = some (.lst (ts.map V.ref)) → ts.length ≤ 64 →
  (∀ (j : Nat) (t : Addr), ts[j]? = some t → ∃ c : Int, H' t = some (.tup [.int j, .int c])) → Q (.ref l) H'
def spGreat (K : PySem.W.Frag) : Sp := fun vs H Q _ => ∃ (a : Addr) (ns : List Int), vs = [.ref a] ∧ SqL K H a (ns.map V.int) ∧ ns.length ≤ 63 ∧ ∀ b, Q (.bl b) H
def IsRow (x : Str) : Prop := ∀ c ∈ x.cps.toList, 97 ≤ c ∧ c ≤ 122
def spRow : Sp := fun vs H Q _ => ∃ (p : Addr) (n : Int), vs = [.ref p, .int n] ∧ HandAt H p ∧ 0 ≤ n ∧ n ≤ 200 ∧ ∀ (x : Str) (H' : Hp), IsRow x → (x.length : Int) = n → HandAt H' p → Kp p H H' → Q (.str x) H'
def spSize : Sp := fun vs H Q _ => ∃ (p : Addr) (m : Int) (b : Bool), vs = [.ref p, .int m, .bl b] ∧ HandAt H p ∧ 7 ≤ m ∧ m ≤ 80 ∧ ∀ (n : Int) (H' : Hp), 0 ≤ n → n ≤ 80 → HandAt H' p → Kp p H H' → Q (.int n) H'
def spLaw (K : PySem.W.Frag) : Sp := fun vs H Q _ => ∃ (a : Addr) (ns : List Int), vs = [.ref a] ∧ SqL K H a (ns.map V.int) ∧ ns.length ≤ 63 ∧ Only H ∧ ∀ H', Q (.bl true) H'
def Scr (K : PySem.W.Frag) (H : Hp) (a : Addr) (xs : List V) : Prop := (∃ o, H a = some (.frz o (.lst xs))) ∨
  ∃ (o : Obj) (its : Array Value) (n : Nat), K.lookup a = some o ∧ o.cls = .type "list" ∧ o.dict = none ∧ o.data = .seq its n ∧ its.size ≤ sizeLine ∧ Vals xs its.toList
theorem Scr.seq {K : PySem.W.Frag} {H : Hp} {a : Addr} {xs : List V} (h : Scr K H a xs) : SqL K H a xs := by
  rcases h with ⟨o, h⟩ | h
  · exact .inl (.inr ⟨o, h⟩)
  · exact .inr h
theorem Scr.of {K : PySem.W.Frag} {H : Hp} {a : Addr} {xs : List V} (h : SqL K H a xs) (O : Only H) : Scr K H a xs := by
  rcases h with (h | ⟨o, h⟩) | h
  · rcases O a with z | ⟨o, ys, z⟩
    · rw [z] at h; cases h
    · rw [z] at h; cases h
  · exact .inl ⟨o, h⟩
  · exact .inr h
theorem Scr.same {K : PySem.W.Frag} {H H' : Hp} {a : Addr} {xs : List V} (h : Scr K H a xs) (k : Same H H') : Scr K H' a xs := by
  rcases h with ⟨o, h⟩ | h
  · exact .inl ⟨o, k _ _ h⟩
  · exact .inr h
theorem Scr.kp {K : PySem.W.Frag} {H H' : Hp} {a p : Addr} {xs : List V} (h : Scr K H a xs) (hp : HandAt H p) (k : Kp p H H') : Scr K H' a xs := by
  rcases h with ⟨o, h⟩ | h
  · exact .inl ⟨o, k _ _ h (hp.neL (K := K) _ _ h)⟩
  · exact .inr h
theorem lay_ints : ∀ ns : List Int, PyData.canLayAll0 (ns.map PyData.int) = true
  | [] => rfl
  | n :: ns => by
    show (PyData.canLay0 (.int n) && PyData.canLayAll0 (ns.map PyData.int)) = true
    rw [lay_ints ns]; rfl
theorem depth_ints : ∀ ns : List Int, PyData.depthAll (ns.map PyData.int) = 0
  | [] => rfl
  | n :: ns => by
    show max (PyData.depth (.int n)) (PyData.depthAll (ns.map PyData.int)) = 0
    rw [depth_ints ns]; rfl
theorem shaped_ints (ns : List Int) : SeqAt.shaped (.list (ns.map PyData.int)) = true := by
  show (PyData.canLayAll0 (ns.map PyData.int) && decide (PyData.depthAll (ns.map PyData.int) + 1 ≤ 64)) = true
  rw [lay_ints, depth_ints]; rfl
theorem eqv_ints : ∀ ns ms : List Int, PyData.eqvAll (ns.map PyData.int) (ms.map PyData.int) = decide (ns = ms)
  | [], [] => rfl
  | n :: ns, m :: ms => by
    show ((n == m) && PyData.eqvAll (ns.map PyData.int) (ms.map PyData.int)) = _
    rw [eqv_ints ns ms, Bool.eq_iff_iff]
    simp
  | [], _ :: _ => by simp [PyData.eqvAll]
  | _ :: _, [] => by simp [PyData.eqvAll]
theorem dpAll_ints {K : PySem.W.Frag} {H : Hp} : ∀ ns : List Int, DpAll K H (ns.map V.int) (ns.map PyData.int)
  | [] => .nil
  | n :: ns => .cons (.int n) (dpAll_ints ns)
theorem Dp.ints {K : PySem.W.Frag} {H : Hp} {a : Addr} {ns : List Int} (h : SqL K H a (ns.map V.int)) : Dp K H (.ref a) (.list (ns.map PyData.int)) := .lst h (dpAll_ints ns)
theorem eqv_list_ints (ns ms : List Int) : PyData.eqv (.list (ns.map PyData.int)) (.list (ms.map PyData.int)) = decide (ns = ms) := eqv_ints ns ms
theorem map_cut (ns : List Int) (lo hi : Option Int) : cutV (ns.map V.int) lo hi = ((ns.drop (HT.sIx ns.length 0 lo)).take (HT.sIx ns.length ns.length hi - HT.sIx ns.length 0 lo)).map V.int := by
  unfold cutV
  rw [List.length_map, List.map_take, List.map_drop]
end L2
set_option Elab.async false
set_option linter.all false
set_option maxRecDepth 100000
namespace L2
open PySem PySem.Spec PyProof.Rows
theorem str_ext {x y : Str} (h : x.cps.toList = y.cps.toList) : x = y := by
  cases x; cases y; congr 1; exact Array.toList_inj.mp h
theorem len_cps (x : Str) : x.length = x.cps.toList.length := by show x.cps.size = _; rw [Array.length_toList]
theorem app_cps (x y : Str) : (x ++ y).cps.toList = x.cps.toList ++ y.cps.toList := by
  show (x.cps ++ y.cps).toList = _
  rw [Array.toList_append]
theorem rev_cps (x : Str) : (revS x).cps.toList = x.cps.toList.reverse := by simp [revS]
theorem cut_cps (x : Str) (lo hi : Option Int) : (cutS x lo hi).cps.toList = (x.cps.toList.drop (HT.sIx x.length 0 lo)).take (HT.sIx x.length x.length hi - HT.sIx x.length 0 lo) := by simp [cutS]
theorem mul_cps (x : Str) (n : Int) : (mulS x n).cps.toList = (List.replicate n.toNat x.cps.toList).flatten := by simp [mulS]
theorem IsRow.app {x y : Str} (h : IsRow x) (h' : IsRow y) : IsRow (x ++ y) := fun c hc => by
  rw [app_cps] at hc
  rcases List.mem_append.mp hc with q | q
  · exact h c q
  · exact h' c q
theorem IsRow.rev {x : Str} (h : IsRow x) : IsRow (revS x) := fun c hc => by
  rw [rev_cps] at hc
  exact h c (List.mem_reverse.mp hc)
theorem IsRow.cut {x : Str} (h : IsRow x) (lo hi : Option Int) : IsRow (cutS x lo hi) := fun c hc => by
  rw [cut_cps] at hc
  exact h c (List.mem_of_mem_drop (List.mem_of_mem_take hc))
theorem IsRow.mul {x : Str} (h : IsRow x) (n : Int) : IsRow (mulS x n) := fun c hc => by
  rw [mul_cps] at hc
  obtain ⟨l, hl, hc⟩ := List.mem_flatten.mp hc
  rw [(List.mem_replicate.mp hl).2] at hc
  exact h c hc
theorem sIx_pos (n d : Nat) {v : Int} (h : 0 ≤ v) : HT.sIx n d (some v) = min v.toNat n := by
  have e : v = ((v.toNat : Nat) : Int) := by omega
  rw [e, HT.sIx_nat]; congr 1
/-- x[:v], 0 ≤ v -/
theorem cut_to (x : Str) {v : Int} (h : 0 ≤ v) : (cutS x none (some v)).cps.toList = x.cps.toList.take v.toNat := by
  rw [cut_cps, HT.sIx_none, sIx_pos _ _ h, List.drop_zero, Nat.sub_zero, List.take_eq_take_iff, len_cps]
  omega
/-- x[v:], 0 ≤ v -/
theorem cut_from (x : Str) {v : Int} (h : 0 ≤ v) : (cutS x (some v) none).cps.toList = x.cps.toList.drop v.toNat := by
  rw [cut_cps, HT.sIx_none, sIx_pos _ _ h, len_cps]
  rw [List.take_of_length_le (by rw [List.length_drop]; exact Nat.le_refl _)]
  by_cases q : v.toNat ≤ x.cps.toList.length
  · rw [Nat.min_eq_left q]
  · rw [Nat.min_eq_right (by omega), List.drop_length, List.drop_eq_nil_of_le (by omega)]
theorem cut_to_len (x : Str) {v : Int} (h : 0 ≤ v) : (cutS x none (some v)).length = min v.toNat x.length := by
  rw [len_cps, cut_to x h, List.length_take, ← len_cps]
/-- one sign -/
def sg (c : Nat) : Str := ⟨#[c]⟩
theorem glued_eq_joinX (y : Str) (parts : List Str) : Txt.join y parts = Str.join y parts := TL.join_eq y parts
theorem join_sg : ∀ cs : List Nat, (Txt.join "" (cs.map sg)).cps.toList = cs := by
  intro cs
  rw [glued_eq_joinX]
  have key : ∀ cs : List Nat, (Str.join "" (cs.map sg)).cps.toList = cs := by
    intro cs
    induction cs with
    | nil => rfl
    | cons c cs ih =>
      cases cs with
      | nil => rfl
      | cons d ds =>
        show ((sg c ++ ("" : Str)) ++ Str.join "" ((d :: ds).map sg)).cps.toList = _
        rw [app_cps, ih, app_cps]
        rfl
  exact key cs
theorem sum_sg (cs : List Nat) : ((cs.map sg).map (·.length)).sum = cs.length := by
  induction cs with
  | nil => rfl
  | cons c cs ih => rw [List.map_cons, List.map_cons, List.sum_cons, ih]; show 1 + cs.length = _; rw [List.length_cons]; omega
theorem at_in {α : Type} {xs : List α} {v : Int} (h0 : 0 ≤ v) (h1 : v < xs.length) : ∃ x, x ∈ xs ∧ xs[v.toNat]? = some x ∧ atI xs v = some x := by
  have hk : v.toNat < xs.length := by omega
  have e : v = ((v.toNat : Nat) : Int) := by omega
  have q : xs[v.toNat]? = some xs[v.toNat] := List.getElem?_eq_getElem hk
  refine ⟨xs[v.toNat], List.getElem_mem hk, q, ?_⟩
  have := atI_nat q
  rw [← e] at this
  exact this
theorem HandAt.off {H : Hp} {p q : Addr} {o : HO} (h : HandAt H p) (n : q ≠ p) : HandAt (upd H q o) p := by
  obtain ⟨d, r, e, z⟩ := h.ex
  exact ⟨d, r, by rw [upd_ne n.symm]; exact e, z⟩
theorem small80 {n : Nat} (h : n ≤ 100000) : n ≤ sizeLine := Nat.le_trans h (by decide)
end L2
set_option Elab.async false
set_option linter.all false
set_option maxRecDepth 100000
namespace L2
open PySem PySem.Spec PyProof.Rows
structure CalleeM (P : Program) (w : World) (K : PySem.W.Frag) (mg : Str → Option Value) (base : Heap) (k : Nat) (C : Addr) (m : Str) (ps : List Str) (sp : Sp) where
  f : Addr
  fd : FuncData
  ok : FnOk P w K mg base CX0 k f fd ps sp
  cl : Cls K C
  me : Meth K C m f
  bd : Binds K fd ps []
structure CalleeI (P : Program) (w : World) (K : PySem.W.Frag) (mg : Str → Option Value) (base : Heap) (k : Nat) (C : Addr) (x : Str) (ps : List Str) (sp : Sp) where
  f : Addr
  fd : FuncData
  ok : FnOk P w K mg base CX0 k f fd ps sp
  mk_ : Mk K C f
  at_ : mg x = some (.ref C)
  bd : Binds K fd ps []
def nxtL : List Nat → Nat → Str → Option Nat
  | [], _, _ => none
  | c :: cs, k, x => if sg c = x then some k else nxtL cs (k + 1) x
def nxt (cs : List Nat) (i : Nat) (x : Str) : Option Nat := nxtL (cs.drop i) i x
theorem nxt_end {cs : List Nat} {i : Nat} (h : cs.length ≤ i) (x : Str) : nxt cs i x = none := by
  unfold nxt; rw [List.drop_eq_nil_of_le h]; rfl
theorem nxt_step {cs : List Nat} {i : Nat} {c : Nat} (h : cs[i]? = some c) (x : Str) : nxt cs i x = if sg c = x then some i else nxt cs (i + 1) x := by
  obtain ⟨hi, e⟩ := List.getElem?_eq_some_iff.mp h
  unfold nxt
  rw [List.drop_eq_getElem_cons hi, e]; rfl
def optV : Option Nat → V
  | none => .non
  | some j => .int j
end L2
set_option Elab.async false
set_option linter.all false
set_option maxRecDepth 100000
namespace L2
open PySem PySem.Spec PyProof.Rows
def optI : Option Nat → Int
  | none => -1
  | some j => j
theorem sg_inj {c d : Nat} (h : sg c = sg d) : c = d := by
  have : (#[c] : Array Nat) = #[d] := congrArg Str.cps h
  simpa using this
theorem nxt_first {cs : List Nat} {c k : Nat} (hk : cs[k]? = some c) : ∀ (m i : Nat), i + m = k → (∀ v, i ≤ v → v < k → cs[v]? ≠ some c) → nxt cs i (sg c) = some k
  | 0, i, e, _ => by
    have e' : i = k := e
    rw [e', nxt_step hk, if_pos rfl]
  | m + 1, i, e, hn => by
    obtain ⟨hl, _⟩ := List.getElem?_eq_some_iff.mp hk
    have hi : cs[i]? = some cs[i] := List.getElem?_eq_getElem (by omega)
    have hne : cs[i] ≠ c := fun z => hn i (Nat.le_refl _) (by omega) (by rw [hi, z])
    rw [nxt_step hi, if_neg (fun z => hne (sg_inj z))]
    exact nxt_first hk m (i + 1) (by omega) fun v h1 h2 => hn v (by omega) h2
theorem nxt_nowhere {cs : List Nat} {c : Nat} : ∀ (m i : Nat), cs.length ≤ i + m → (∀ v, i ≤ v → cs[v]? ≠ some c) → nxt cs i (sg c) = none
  | 0, i, e, _ => nxt_end e _
  | m + 1, i, e, hn => by
    by_cases hl : i < cs.length
    · have hi : cs[i]? = some cs[i] := List.getElem?_eq_getElem hl
      have hne : cs[i] ≠ c := fun z => hn i (Nat.le_refl _) (by rw [hi, z])
      rw [nxt_step hi, if_neg (fun z => hne (sg_inj z))]
      exact nxt_nowhere m (i + 1) (by omega) fun v h1 => hn v (by omega)
    · exact nxt_end (by omega) _
theorem find3_nxt (z : Str) (c : Nat) {i : Int} (h0 : 0 ≤ i) : Txt.find3 z (sg c) i = optI (nxt z.cps.toList i.toNat (sg c)) := by
  have ef : fromIndex z.length i = i.toNat := by
    unfold fromIndex
    rw [if_neg (by omega)]
    omega
  rcases StrLaws.find3_spec z c i with ⟨e, hn⟩ | ⟨k, e, h1, h2, h3, hn⟩
  · rw [ef] at hn
    have e' : Txt.find3 z (sg c) i = -1 := e
    rw [e', nxt_nowhere z.cps.toList.length i.toNat (by omega) fun v hv hc => ?_]
    · rfl
    · obtain ⟨hl, _⟩ := List.getElem?_eq_some_iff.mp hc
      exact hn v hv (by rw [len_cps]; exact hl) (StrLaws.getD_of_getElem? hc)
  · rw [ef] at hn h1
    have e' : Txt.find3 z (sg c) i = (k : Int) := e
    rw [e', nxt_first (StrLaws.getElem?_of_getD h2 h3) (k - i.toNat) i.toNat (by omega) fun v hv hvk hc => ?_]
    · rfl
    · exact hn v hv hvk (StrLaws.getD_of_getElem? hc)
section
variable {X : Cx}
def rFind3 : V → List V → Hp → VK → Prop := fun x xs H Q => ∃ (z : Str) (c : Nat) (i : Int), x = .str z ∧ xs = [.str (sg c), .int i] ∧ 0 ≤ i ∧ Q (.int (optI (nxt z.cps.toList i.toNat (sg c)))) H
theorem mt_find3 : MtR X "str.find" rFind3 := by
  intro pins s σ H x xs v us Q I rx rs h
  obtain ⟨z, c, i, rfl, rfl, h0, q⟩ := h
  obtain ⟨t, rfl⟩ := rx
  cases rs with
  | cons r1 rs =>
    cases rs with
    | cons r2 rs =>
      cases rs
      obtain ⟨u, rfl⟩ := r1
      obtain ⟨u2, rfl⟩ := r2
      exact PySem.SC.find3 ⟨.int _, H, I.tok _, ⟨_, rfl⟩, by rw [find3_nxt z c h0]; exact q⟩
def prv (cs : List Nat) : Nat → Str → Option Nat
  | 0, _ => none
  | e + 1, x => if cs[e]?.map sg = some x then some e else prv cs e x
theorem prv_last {cs : List Nat} {c k : Nat} (hk : cs[k]? = some c) : ∀ (m e : Nat), e = k + 1 + m → (∀ v, k < v → v < e → cs[v]? ≠ some c) → prv cs e (sg c) = some k
  | 0, e, he, _ => by
    subst he
    show (if cs[k]?.map sg = some (sg c) then some k else _) = _
    rw [hk]; exact if_pos rfl
  | m + 1, e, he, hn => by
    subst he
    show (if cs[k + 1 + m]?.map sg = some (sg c) then _ else prv cs (k + 1 + m) (sg c)) = _
    rw [if_neg]
    · exact prv_last hk m _ rfl fun v h1 h2 => hn v h1 (by omega)
    · intro h
      obtain ⟨d, hd, hs⟩ := Option.map_eq_some_iff.mp h
      exact hn (k + 1 + m) (by omega) (by omega) (by rw [hd, sg_inj hs])
theorem prv_nowhere {cs : List Nat} {c : Nat} : ∀ (e : Nat), (∀ v, v < e → cs[v]? ≠ some c) → prv cs e (sg c) = none
  | 0, _ => rfl
  | e + 1, hn => by
    show (if cs[e]?.map sg = some (sg c) then _ else prv cs e (sg c)) = _
    rw [if_neg]
    · exact prv_nowhere e fun v h => hn v (by omega)
    · intro h
      obtain ⟨d, hd, hs⟩ := Option.map_eq_some_iff.mp h
      exact hn e (by omega) (by rw [hd, sg_inj hs])
open Builtin Builtin.Str in
theorem gives_rfind_in (x y : Str) (i j : Int) (t u v v' : Tok) : Gives («str.rfind» ⟨[.str x t, .str y u, .int i v, .int j v'], []⟩)
    (.int (match lastOccurrence x y (fromIndex x.length i) (min (fromIndex x.length j) x.length) with | some k => (k : Int) | none => -1)) := by
  show Gives (match lastOccurrence x y (fromIndex x.length i) (min (fromIndex x.length j) x.length) with | some k => retInt k | none => (do rule "str.rfind.not-found"; retInt (-1))) _
  cases lastOccurrence x y (fromIndex x.length i) (min (fromIndex x.length j) x.length) with
  | none => exact .rule (.of_eq rfl)
  | some k => exact .of_eq rfl
open Builtin Builtin.Str in
theorem last_in (x y : Str) (hi : Nat) : (lastOccurrence x y 0 hi = none ∧ ∀ i, ¬ StrLaws.At x y hi i) ∨ ∃ i, lastOccurrence x y 0 hi = some i ∧ StrLaws.At x y hi i ∧ ∀ k, i < k → ¬ StrLaws.At x y hi k := by
  rw [StrLaws.last_eq]
  have key := StrLaws.last_run x y hi (List.range' 0 (hi + 1 - 0)) [] none (fun _ h => nomatch h) (fun _ h => nomatch h) (by simpa using List.pairwise_lt_range' (s := 0) (n := hi + 1 - 0))
  have mem : ∀ i, StrLaws.At x y hi i → i ∈ [] ++ List.range' 0 (hi + 1 - 0) := fun i hi => by have := hi.1; simp [List.mem_range'] <;> omega
  cases hr : (forIn (List.range' 0 (hi + 1 - 0)) none (StrLaws.lastBody x y hi)).run with
  | none => rw [hr] at key; exact .inl ⟨rfl, fun i hi => key i (mem i hi) hi⟩
  | some a => rw [hr] at key; exact .inr ⟨a, rfl, key.1, fun k hk hA => key.2 k (mem k hA) hk hA⟩
theorem at_sg (x : Str) (c hi i : Nat) (hh : hi ≤ x.length) : StrLaws.At x (sg c) hi i ↔ i < hi ∧ x.cps.toList[i]? = some c := by
  have e1 : (sg c).length = 1 := rfl
  constructor
  · rintro ⟨h1, h2⟩
    rw [e1] at h1
    exact ⟨by omega, (StrLaws.subAt_one x c i).mp ⟨by show i + 1 ≤ _; omega, h2⟩⟩
  · rintro ⟨h1, h2⟩
    exact ⟨by rw [e1]; omega, ((StrLaws.subAt_one x c i).mpr h2).2⟩
open Builtin Builtin.Str in
theorem rfind_prv (z : Str) (c : Nat) {j : Int} (h0 : 0 ≤ j) (h1 : j ≤ z.length) :
    (match lastOccurrence z (sg c) (fromIndex z.length 0) (min (fromIndex z.length j) z.length) with | some k => (k : Int) | none => -1) = optI (prv z.cps.toList j.toNat (sg c)) := by
  have e0 : fromIndex z.length 0 = 0 := by unfold fromIndex; rw [if_neg (by omega)]; omega
  have ej : fromIndex z.length j = j.toNat := by unfold fromIndex; rw [if_neg (by omega)]; omega
  rw [e0, ej, Nat.min_eq_left (by omega)]
  have hh : j.toNat ≤ z.length := by omega
  rcases last_in z (sg c) j.toNat with ⟨e, hn⟩ | ⟨k, e, hk, hn⟩
  · rw [e, prv_nowhere j.toNat fun v hv hc => hn v ((at_sg z c _ v hh).mpr ⟨hv, hc⟩)]
    rfl
  · obtain ⟨hk1, hk2⟩ := (at_sg z c _ k hh).mp hk
    rw [e, prv_last hk2 (j.toNat - k - 1) j.toNat (by omega) fun v h1 h2 hc => hn v h1 ((at_sg z c _ v hh).mpr ⟨h2, hc⟩)]
    rfl
def rRfind4 : V → List V → Hp → VK → Prop := fun x xs H Q => ∃ (z : Str) (c : Nat) (j : Int), x = .str z ∧ xs = [.str (sg c), .int 0, .int j] ∧ 0 ≤ j ∧ j ≤ z.length ∧ Q (.int (optI (prv z.cps.toList j.toNat (sg c)))) H
theorem mt_rfind4 : MtR X "str.rfind" rRfind4 := by
  intro pins s σ H x xs v us Q I rx rs h
  obtain ⟨z, c, j, rfl, rfl, h0, h1, q⟩ := h
  obtain ⟨t, rfl⟩ := rx
  cases rs with
  | cons r1 rs =>
    cases rs with
    | cons r2 rs =>
      cases rs with
      | cons r3 rs =>
        cases rs
        obtain ⟨u, rfl⟩ := r1
        obtain ⟨u2, rfl⟩ := r2
        obtain ⟨u3, rfl⟩ := r3
        refine call_gives F.slot_str_rfind (typeIs_str _ _ _) F.entry_str_rfind (F.args_str_rfind_4 _ _ _ _) (gives_rfind_in z (sg c) 0 j t u u2 u3) ?_
        rw [rfind_prv z c h0 h1]
        exact ⟨.int _, H, I.tok _, ⟨_, rfl⟩, q⟩
end
end L2
set_option Elab.async false
set_option linter.all false
set_option maxRecDepth 100000
namespace L2
open PySem PySem.Spec PyProof.Rows
theorem slicePick_rev (its : List Value) : slicePick its.toArray none none (some (-1)) = its.reverse.toArray := by
  unfold slicePick
  have e1 : (sliceBounds none none (some (-1)) its.toArray.size).1 = (its.length : Int) - 1 := rfl
  have e2 : (sliceBounds none none (some (-1)) its.toArray.size).2.1 = -1 := rfl
  have e3 : (sliceBounds none none (some (-1)) its.toArray.size).2.2 = -1 := rfl
  rw [e1, e2, e3]
  congr 1
  unfold sliceRange
  have e0 : ¬ ((-1 : Int) > 0) := by decide
  simp only [if_neg e0]
  have e4 : (if (its.length : Int) - 1 > -1 then ((its.length : Int) - 1 - -1 - -1 - 1) / (- -1) else 0) = (its.length : Int) := by
    by_cases h : (its.length : Int) - 1 > -1
    · rw [if_pos h, show (- -1 : Int) = 1 from rfl, Int.ediv_one]; omega
    · rw [if_neg h]; omega
  rw [e4, Int.toNat_natCast, List.filterMap_map]
  have e : ∀ k ∈ List.range its.length, ((fun x => its.toArray[x]?) ∘ fun k : Nat => ((its.length : Int) - 1 + -1 * (k : Int)).toNat) k = some (its.reverse.getD k .none) := by
    intro k hk
    have hk' := List.mem_range.mp hk
    show its.toArray[((its.length : Int) - 1 + -1 * (k : Int)).toNat]? = _
    have e5 : ((its.length : Int) - 1 + -1 * (k : Int)).toNat = its.length - 1 - k := by omega
    rw [e5, List.getElem?_toArray, List.getD_eq_getElem?_getD, List.getElem?_reverse hk']
    rw [List.getElem?_eq_getElem (by omega)]
    rfl
  rw [fm_congr e, List.filterMap_eq_map']
  refine List.ext_getElem (by simp) fun i h1 h2 => ?_
  simp at h1 h2 ⊢
  rw [List.getElem?_eq_getElem (by simpa using h2)]
  simp
theorem Vals.rev {xs : List V} {us : List Value} (r : Vals xs us) : Vals xs.reverse us.reverse := by
  induction r with
  | nil => exact .nil
  | cons a t ih => rw [List.reverse_cons, List.reverse_cons]; exact ih.append (.cons a .nil)
def tRevL (K : PySem.W.Frag) (te : TE) : TE := fun σ H Q => te σ H fun x H1 => ∃ a xs, x = .ref a ∧ SqL K H1 a xs ∧ ∀ p, H1 p = none → Q (.ref p) (upd H1 p (.lst xs.reverse))
section
variable {X : Cx} {e : Expr} {te : TE}
theorem pe_revL {k : Nat} {p1 p2 p3 pos : Pos} (he : PE X e te) : PE X (.Subscript e (.Slice none none (some (.UnaryOp .USub (.Constant (.int 1) k p1) p3)) p2) pos) (tRevL X.K te) := by
  intro pins s σ H Q I h
  refine Subscript_ (thn (he pins s σ H _ I h) fun v s1 ⟨x, H1, I1, r1, q1⟩ => ?_)
  obtain ⟨a, xs, rfl, hx, q⟩ := q1
  cases r1
  refine wpAny_Slice ?_
  rw [evalPart_none]
  refine wpAny_pure (wpAny_pure ?_)
  rw [evalPart_some]
  refine thn (pe_un un_neg pe_int pins s1 σ H1 (fun x H' => x = .int (-1) ∧ H' = H1) I1 ⟨1, rfl, rfl, rfl⟩) fun u s2 ⟨x2, H2, I2, r2, e2, e3⟩ => ?_
  subst e2 e3
  obtain ⟨t2, rfl⟩ := r2
  have I4 : Inv X pins σ H2 { s2 with heap := s2.heap.push { cls := .type "slice", data := .fields #[.none, .none, .int (-1) t2] } } := I2.kept (t' := s2.toks) fun b ob q => Heap.get?_push_of_some _ q
  obtain ⟨its, r, ht, hz⟩ := I4.list hx
  have hlen := r.length
  show wpAny (model X.prog X.w) X.A (subscriptTail e _ (.ref a) (.ref s2.heap.objs.size)) (EP X pins σ Q) X.xe _
  refine tail_any (ops := [.ref a, .ref s2.heap.objs.size]) ht.isList.typeIs slot_list_getitem.lookup ?_ (by with_unfolding_all rfl)
  refine wpAny_getItem_list_slice ht.isList ⟨_, Heap.get?_push_size _ rfl, rfl, rfl⟩ .none .none (.int (-1) t2) (by simp) ?_ (by rw [List.size_toArray]; omega)
  rw [slicePick_rev]
  refine ⟨.ref _, _, I4.laid (t' := s2.toks) (o := .lst xs.reverse) (fun b ob q => Heap.get?_push_of_some _ q) (Nat.le_refl _) ?_, rfl, q _ (I4.hok.fresh (Nat.le_refl _))⟩
  exact ⟨by rw [List.length_reverse]; exact hz, _, 0, r.rev, Heap.get?_push_size _ rfl⟩
def rRepr (K : PySem.W.Frag) : List V → Hp → VK → Prop := fun xs H Q => ∃ x d, xs = [x] ∧ Dp K H x d ∧ d.showable = true ∧ d.hasDict = false ∧ d.depth ≤ 64 ∧ d.shown.length ≤ sizeLine ∧ Q (.str d.shown) H
end
end L2
set_option Elab.async false
set_option linter.all false
set_option maxRecDepth 100000
namespace L2
open PySem PySem.Spec PyProof.Rows
def IteS (x : Str) : It :=
  ⟨fun i _ => i < x.cps.size, fun i H v H' => ∃ T c, v = .ref T ∧ H T = none ∧ x.cps[i]? = some c ∧ H' = upd H T (.tup [.int (i : Nat), .str ⟨#[c]⟩]), fun i _ => x.cps.size ≤ i⟩
def drawsS {prog : Program} {w : World} {A : Around} (hh : A.handled = none) (it : Addr) (x : Str) (t : Tok) (ty : String) (hty : ty = "str_ascii_iterator" ∨ ty = "str_iterator") :
    Draws prog w A it [it] x.cps.size (fun i v => ∃ c u, x.cps[i]? = some c ∧ v = .str ⟨#[c]⟩ u) (fun i h => h.IsStrIter it ty x t i) := by
  rcases hty with e | e
  · rw [e]; exact Draws.strAscii hh it x t
  · rw [e]; exact Draws.strWide hh it x t
theorem strIterType_of (x : Str) : strIterType x = "str_ascii_iterator" ∨ strIterType x = "str_iterator" := by
  unfold strIterType; split
  · exact .inl rfl
  · exact .inr rfl
def iEnumS (ta : TA) : TI := fun σ H R => ta σ H fun vs H1 => ∃ x, vs = [.str x] ∧ R (IteS x) H1
end L2
set_option Elab.async false
set_option linter.all false
set_option maxRecDepth 100000
namespace L2
open PySem PySem.Spec PyProof.Rows
theorem owner_reversed : Manifest.owners.lookup (String.ofList ['d', 'e', 's', 'r', 'e', 'v', 'e', 'r'].reverse) = some Manifest.sig_reversed := by kernel_rfl
theorem slot_reversed_next : Slot "reversed" "__next__" "reversed.__next__" :=
  .of (owner := "reversed") (n := "__next__") (by rw [typeLookup_type, builtinLookup_eq_fast]; kernel_rfl) (by decide +kernel) (by decide +kernel) (by decide +kernel)
    (by first | exact .inl (by decide +kernel) | exact .inr (by decide +kernel)) (by rw [isSubtype_type]; kernel_rfl)
theorem entry_reversed_next : entryFor table "reversed.__next__" = some Builtin.«reversed.__next__» := entryFor_of_tree (by kernel_rfl)
theorem args_reversed_next (a : Value) : argsOk "reversed.__next__" ⟨[a], []⟩ := by
  unfold argsOk; rw [signature?_of (id := "reversed.__next__") (n := ['_', '_', 't', 'x', 'e', 'n', '_', '_']) (o := ['d', 'e', 's', 'r', 'e', 'v', 'e', 'r']) (by kernel_rfl) owner_reversed]; kernel_rfl
theorem slot_reversed_iter : Slot "reversed" "__iter__" "reversed.__iter__" :=
  .of (owner := "reversed") (n := "__iter__") (by rw [typeLookup_type, builtinLookup_eq_fast]; kernel_rfl) (by decide +kernel) (by decide +kernel) (by decide +kernel)
    (by first | exact .inl (by decide +kernel) | exact .inr (by decide +kernel)) (by rw [isSubtype_type]; kernel_rfl)
theorem args_reversed_iter (a : Value) : argsOk "reversed.__iter__" ⟨[a], []⟩ := by
  unfold argsOk; rw [signature?_of (id := "reversed.__iter__") (n := ['_', '_', 'r', 'e', 't', 'i', '_', '_']) (o := ['d', 'e', 's', 'r', 'e', 'v', 'e', 'r']) (by kernel_rfl) owner_reversed]; kernel_rfl
theorem entry_reversed_iter : entryFor table "reversed.__iter__" = some Builtin.«dict_keyiterator.__iter__» :=
  entryFor_alias (id' := "dict_keyiterator.__iter__") (by kernel_rfl) (by first | rfl | decide +kernel | (unfold String.splitOn; simp +decide [String.splitOnAux])) (by decide +kernel) (by kernel_rfl)
theorem slot_reversed_init : Slot "reversed" "__init__" "object.__init__" :=
  .of (owner := "object") (n := "__init__") (by rw [typeLookup_type, builtinLookup_eq_fast]; kernel_rfl) (by decide +kernel) (by decide +kernel) (by decide +kernel)
    (by first | exact .inl (by decide +kernel) | exact .inr (by decide +kernel)) (by rw [isSubtype_type]; kernel_rfl)
theorem called_reversed : TypeCalled "reversed" "reversed.__new__" "object.__init__" :=
  ⟨by decide +kernel, by decide +kernel, ⟨_, _, F.mro_reversed⟩, F.made_reversed, by decide +kernel, by rw [isSubtype_type]; kernel_rfl, slot_reversed_init⟩
theorem str_norev : typeLookup (.type "str") "__reversed__" = pure none := by rw [typeLookup_type, builtinLookup_eq_fast]; kernel_rfl
end L2
set_option Elab.async false
set_option linter.all false
set_option maxRecDepth 100000
namespace L2
open PySem PySem.Spec PyProof.Rows
def revSObj (x : Str) (t : Tok) (i : Int) : Obj := { cls := .type "reversed", data := .fields #[.str x t, rawInt i] }
def IsRevS (h : Heap) (a : Addr) (x : Str) (t : Tok) (i : Int) : Prop := h.get? a = some (revSObj x t i)
set_option maxHeartbeats 1000000 in
theorem meets_reversed_newS (x : Str) (t : Tok) (hx : x.length ≤ sizeLine) :
    Meets (Builtin.«reversed.__new__» ⟨[.type "reversed", .str x t], []⟩) (fun _ R s =>
      ∀ tk, R (.ok (.ret (.ref s.heap.objs.size))) { s with heap := s.heap.push (revSObj x t ((x.length : Int) - 1)), toks := tk }) :=
  .of_wp fun prog w A R s h => by
    obtain ⟨hp, g, d, tk, os⟩ := s
    unfold Builtin.«reversed.__new__»
    refine wpAny_bind (wpAny_of_eq (newClass_reversed _) ?_)
    try dsimp only
    refine wpAny_bind (wpAny_of_eq (a := ()) (by first | rfl | kernel_rfl) ?_)
    refine wpAny_bind (wpAny_of_eq (a := ()) (by first | rfl | kernel_rfl) ?_)
    try dsimp only
    refine wpAny_bind (wpAny_specialOf (typeIs_str _ _ _) str_norev ?_)
    try dsimp only
    refine wpAny_bind ?_
    show wpAny _ _ (isInstance (.str x t) (.type "dict") >>= _) _ _ _
    refine wpAny_bind (wpAny_isInstance (T := "str") (b := false) (typeIs_str _ _ _) (by rw [isSubtype_type]; kernel_rfl) ?_)
    try dsimp only
    rw [if_neg Bool.false_ne_true]
    refine wpAny_bind (wpAny_specialOf (typeIs_str _ _ _) F.slot_str_getitem.lookup ?_)
    try dsimp only
    rw [if_pos (by decide +kernel)]
    refine wpAny_pure ?_
    rw [if_neg (show ¬ ((!true) = true) from Bool.false_ne_true)]
    refine wpAny_bind (len_str (by have hn := line63; omega) ?_)
    refine wpAny_bind (wpAny_of_eq (a := some (x.length : Int)) rfl ?_)
    try dsimp only
    refine wpAny_bind ?_
    unfold Builtin.SmallTypes.newRecord
    exact wpAny_newObj_type (wpAny_pure ⟨_, rfl, h _⟩)
theorem call_reversed_str {prog : Program} {w : World} {A : Around} {E : Value → Shared → Prop} {s : Shared} {x : Str} {t : Tok} {Q : Value → Shared → Prop} (hx : x.length ≤ sizeLine)
    (h : ∀ tk, Q (.ref s.heap.objs.size) { s with heap := s.heap.push (revSObj x t ((x.length : Int) - 1)), toks := tk }) : wpAny (model prog w) A (call (.type "reversed") [.str x t]) Q E s :=
  callType_new called_reversed (by decide) (F.typeCall_reversed_1 _) (F.newCall_reversed_1 _) (fun obj => F.args_object_init_2 obj _) F.entry_reversed_new (meets_reversed_newS x t hx)
    fun tk => ⟨⟨_, Heap.get?_push_size _ rfl, rfl⟩, h tk⟩
section
variable {prog : Program} {w : World} {A : Around} {E : Value → Shared → Prop} {s : Shared}
theorem IsRevS.typeIs {a : Addr} {x : Str} {t : Tok} {i : Int} (h : IsRevS s.heap a x t i) : s.TypeIs (.ref a) "reversed" := ⟨_, h, rfl⟩
theorem pyIter_revS {it : Addr} {x : Str} {t : Tok} {i : Int} {Q : Value → Shared → Prop} (hit : IsRevS s.heap it x t i) (h : Q (.ref it) s) : wpAny (model prog w) A (pyIter (.ref it)) Q E s := by
  refine wpAny_pyIter_slot hit.typeIs slot_reversed_iter (wpAny_call_entry slot_reversed_iter hit.typeIs entry_reversed_iter ?_ (args_reversed_iter _))
  show wpAny _ _ (ret (.ref it)) _ _ s
  exact wpAny_pure ⟨_, rfl, "reversed", _, hit.typeIs, slot_reversed_next.lookup, h⟩
theorem pyNext_revS_item {it : Addr} {x : Str} {t : Tok} {i c : Nat} {Q : Option Value → Shared → Prop} (hit : IsRevS s.heap it x t (i : Int)) (hc : x.cps[i]? = some c) (hi : (i : Int) < 2 ^ 62)
    (hQ : ∀ h' tk u, IsRevS h' it x t ((i : Int) - 1) → Heap.SameBut it s.heap h' → Q (some (.str ⟨#[c]⟩ u)) { s with heap := h', toks := tk }) : wpAny (model prog w) A (pyNext (.ref it)) Q E s := by
  unfold pyNext
  refine wpAny_bind (wpAny_attempt (wpAny_callSpecial?_slot (name := Str.ofString "__next__") hit.typeIs slot_reversed_next
    (wpAny_call_entry slot_reversed_next hit.typeIs entry_reversed_next ?_ (args_reversed_next _))))
  unfold Builtin.«reversed.__next__»
  refine wpAny_bind (wpAny_of_eq (a := (Value.ref it, [])) rfl ?_)
  try dsimp only
  refine wpAny_bind (wpAny_field hit rfl (x := .str x t) rfl ?_)
  refine wpAny_bind (wpAny_field hit rfl (x := rawInt (i : Int)) rfl ?_)
  show wpAny _ _ (if (i : Int) < 0 then _ else _) _ _ s
  rw [if_neg (by omega)]
  refine wpAny_bind (wpAny_specialOf (typeIs_str _ _ _) F.slot_str_getitem.lookup ?_)
  try dsimp only
  rw [if_neg (show ¬ ((some (Value.builtin "str.__getitem__")).isNone = true) from Bool.false_ne_true)]
  refine wpAny_bind (wpAny_mkInt ?_)
  have hlt : i < x.cps.size := by
    cases Nat.lt_or_ge i x.cps.size with
    | inl h => exact h
    | inr h => rw [Array.getElem?_eq_none h] at hc; cases hc
  refine wpAny_bind (wpAny_attempt (P.getItem_str (c := c) (by simp only [Bool.or_eq_false_iff, decide_eq_false_iff_not]; omega) ?_ ?_))
  · have hi' : seqIndex? (i : Int) x.length = some i := seqIndex_of (by omega) (by show (i : Int) < (x.cps.size : Nat); omega)
    rw [hi']; exact hc
  refine wpAny_bind (wpAny_field hit rfl (x := rawInt (i : Int)) rfl ?_)
  show wpAny _ _ (setField (.ref it) 1 (rawInt ((i : Int) - 1)) >>= _) _ _ _
  refine wpAny_bind (wpAny_setField_rec hit (by simp) fun h' he' hs' => ?_)
  exact wpAny_pure ⟨_, rfl, wpAny_pure (hQ h' _ _ he' hs')⟩
theorem pyNext_revS_end {it : Addr} {x : Str} {t : Tok} {Q : Option Value → Shared → Prop} (hh : A.handled = none) (hit : IsRevS s.heap it x t (-1))
    (hQ : ∀ h', Heap.ExtBut it s.heap h' → Q none { s with heap := h' }) : wpAny (model prog w) A (pyNext (.ref it)) Q E s := by
  unfold pyNext
  refine wpAny_bind (wpAny_attempt (wpAny_callSpecial?_slot (name := Str.ofString "__next__") hit.typeIs slot_reversed_next
    (wpAny_call_entry slot_reversed_next hit.typeIs entry_reversed_next ?_ (args_reversed_next _))))
  unfold Builtin.«reversed.__next__»
  refine wpAny_bind (wpAny_of_eq (a := (Value.ref it, [])) rfl ?_)
  try dsimp only
  refine wpAny_bind (wpAny_field hit rfl (x := .str x t) rfl ?_)
  refine wpAny_bind (wpAny_field hit rfl (x := rawInt (-1)) rfl ?_)
  show wpAny _ _ (if (-1 : Int) < 0 then _ else _) _ _ s
  rw [if_pos (by decide)]
  refine wpAny_bind (wpAny_rule ?_)
  refine wpAny_bind ?_
  show wpAny _ _ (setField (.ref it) 1 (rawInt (-1)) >>= fun _ => setField (.ref it) 0 .none) _ _ _
  refine wpAny_bind (wpAny_setField_rec hit (by simp) fun h1 he1 hs1 => ?_)
  refine wpAny_setField_rec (s := { s with heap := h1 }) he1 (by simp) fun h2 he2 hs2 => ?_
  refine wpAny_bind ?_
  show wpAny _ _ (newExc (.type "StopIteration") [] >>= _) _ _ _
  refine wpAny_bind ?_
  simp only [newExc, newTuple]
  refine wpAny_bind (wpAny_newObj_type ?_ (by size_fits))
  refine wpAny_bind (m := firstArgMember _ _) (wpAny_of_eq (a := Value.none) (by first | rfl | (simp only [firstArgMember]; rfl)) ?_)
  refine wpAny_newObj_type ?_ (by size_fits)
  simp only [raiseNew]
  refine wpAny_bind (wpAny_handled ?_)
  first | rw [show A.in1.handled = none from hh] | rw [hh]
  refine wpAny_bind (wpAny_pure (wpAny_throw ?_))
  refine wpAny_bind (wpAny_isInstance (T := "StopIteration") (b := true) ⟨_, Heap.get?_push_size _ rfl, rfl⟩ isSubtype_stop ?_)
  have hx : Heap.ExtBut it s.heap h2 := fun b o hb e => hs2.extBut b o hb (hs1.extBut b o hb e)
  exact wpAny_pure (hQ _ ((hx.push _).push _))
end
/-- the signs of a text from behind -/
def ItsR (x : Str) : It := ⟨fun i _ => i < x.cps.size, fun i H v H' => H' = H ∧ ∃ c, x.cps[x.cps.size - 1 - i]? = some c ∧ v = .str ⟨#[c]⟩, fun i _ => x.cps.size ≤ i⟩
theorem turn_revS {P : Program} {w : World} {K : PySem.W.Frag} {tg : Expr} (it : Addr) (x : Str) (t : Tok) (hx : x.length ≤ sizeLine) :
    Turn P w K tg (ItsR x) [it] it (fun i h => i ≤ x.cps.size ∧ IsRevS h it x t ((x.cps.size : Int) - 1 - (i : Nat))) where
  mem := by simp
  obj := fun i h st b hb => by
    have e : b = it := by simpa using hb
    subst e
    exact ⟨_, st.2, fun v z => nomatch z⟩
  keep := fun i h h' st k => ⟨st.1, k it (by simp) _ st.2⟩
  item := by
    intro X hP hw hK hc i pins s σ H E I hf st hg
    subst hP hw hK
    obtain ⟨f0, f1, f2, f3, f4, f5⟩ := hf it (by simp)
    obtain ⟨_, hit⟩ := st
    have hlt : i < x.cps.size := hg
    have e1 : (x.cps.size : Int) - 1 - ((i : Nat) : Int) = ((x.cps.size - 1 - i : Nat) : Int) := by omega
    rw [e1] at hit
    have hcx : x.cps[x.cps.size - 1 - i]? = some (x.cps[x.cps.size - 1 - i]'(by omega)) := Array.getElem?_eq_getElem (by omega)
    have hl63 := line63
    have hxx : x.cps.size ≤ sizeLine := hx
    refine pyNext_revS_item hit hcx (by have : (2 : Int) ^ 62 = 4611686018427387904 := by decide
                                        have h2 : sizeLine ≤ 100000000000 := by decide
                                        omega) fun h' tk u st' sb => ?_
    have e2 : ((x.cps.size - 1 - i : Nat) : Int) - 1 = (x.cps.size : Int) - 1 - ((i + 1 : Nat) : Int) := by omega
    rw [e2] at st'
    have I1 : Inv X pins σ H { s with heap := h', toks := tk } := I.turned (fun b o hb e => (sb.2 b hb).trans e) f0 f1 f3 f4 f5
    exact ⟨_, rfl, go_of (s := { s with heap := h', toks := tk }) (n := "reversed") st' rfl rfl (by decide) ⟨.str ⟨#[_]⟩, H, I1, ⟨u, rfl⟩, ⟨rfl, _, hcx, rfl⟩, ⟨hlt, st'⟩, fun b hb => (hf b hb).1⟩⟩
  done := by
    intro X hP hw hK hc i pins s σ H E I hf st hg
    subst hP hw hK
    obtain ⟨f0, f1, f2, f3, f4, f5⟩ := hf it (by simp)
    obtain ⟨hi, hit⟩ := st
    have hge : x.cps.size ≤ i := hg
    have e1 : (x.cps.size : Int) - 1 - ((i : Nat) : Int) = -1 := by omega
    rw [e1] at hit
    exact pyNext_revS_end (I.ok.hd hc) hit fun h' eb => ⟨rfl, I.turned (t' := s.toks) (fun b o hb e => eb b o hb e) f0 f1 f3 f4 f5⟩
  self := fun A i s Q E st h => pyIter_revS st.2 h
def iRevS (ta : TA) : TI := fun σ H R => ta σ H fun vs H1 => ∃ x : Str, vs = [.str x] ∧ x.length ≤ sizeLine ∧ R (ItsR x) H1
theorem pi_revStr {X : Cx} {tg e : Expr} {ta : TA} {p pos : Pos} (hg : Gl X "reversed") (hm : X.mg "reversed" = none) (ha : PA X [e] ta) (hs : starEach [e] X.env = [(false, eval e X.env)] := by rfl) : PI X tg (.Call (.Name "reversed" p) [e] [] pos) (iRevS ta) := by
  intro pins s σ H R I h
  refine Call_ (ld_blt I hg hm boot_reversed5 (PyProof.Rows.callWith_type1 (thn (ha pos pins s σ H _ I h) fun us s1 ⟨vs, H1, I1, r1, q1⟩ => ?_) hs rfl))
  obtain ⟨x, e, hx, q⟩ := q1
  subst e
  cases r1 with
  | cons r rr =>
    cases rr
    obtain ⟨t, rfl⟩ := r
    refine call_reversed_str hx fun tk => pyIter_revS (x := x) (t := t) (i := (x.length : Int) - 1) (Heap.get?_push_size _ rfl) ?_
    refine pi_one (tk := tk) I1 _ (turn_revS _ x t hx) ⟨Nat.zero_le _, ?_⟩ q
    have e1 : (x.cps.size : Int) - 1 - ((0 : Nat) : Int) = (x.length : Int) - 1 := by
      show (x.cps.size : Int) - 1 - ((0 : Nat) : Int) = ((x.cps.size : Nat) : Int) - 1
      omega
    rw [e1]
    exact Heap.get?_push_size _ rfl
end L2
set_option Elab.async false
set_option linter.all false
set_option maxRecDepth 100000
namespace L2
open PySem PySem.Spec PyProof.Rows
theorem for_cnt {J : It} {n : Nat} (go : ∀ i H, i < n → J.go i H) (stop : ∀ i H, n ≤ i → J.stop i H) {g : TG} {tb : TS} {D : Ends} {σ : St} {H : Hp} (Pv : Nat → St → Hp → Prop) (h0 : Pv 0 σ H)
    (hs : ∀ i x σ H H', i < n → J.yld i H x H' → Pv i σ H → g x σ H' fun σ2 H2 => tb { D with nx := Pv (i + 1), ct := Pv (i + 1), bk := D.nx } σ2 H2) (hd : ∀ σ H, Pv n σ H → D.nx σ H) :
    ∃ W : Nat → Nat → St → Hp → Prop, (∃ m, W 0 m σ H) ∧ ∀ i m σ H, W i m σ H →
      (J.stop i H ∧ D.nx σ H) ∨ (J.go i H ∧ ∃ N : St → Hp → Prop, (∀ σ' H', N σ' H' → ∃ m', m' < m ∧ W (i + 1) m' σ' H') ∧ ∀ x H', J.yld i H x H' → g x σ H' fun σ2 H2 => tb { D with nx := N, ct := N, bk := D.nx } σ2 H2) := by
  refine ⟨fun i m σ H => m = n - i ∧ i ≤ n ∧ Pv i σ H, ⟨n, by simp, Nat.zero_le _, h0⟩, ?_⟩
  rintro i m σ H ⟨rfl, hi, p⟩
  by_cases hlt : i < n
  · exact .inr ⟨go i H hlt, Pv (i + 1), fun σ' H' p' => ⟨n - (i + 1), by omega, rfl, hlt, p'⟩, fun x H' y => hs i x σ H H' hlt y p⟩
  · have e : i = n := by omega
    subst e
    exact .inl ⟨stop _ _ (Nat.le_refl _), hd σ H p⟩
theorem lc_cnt {J : It} {n : Nat} (go : ∀ i H, i < n → J.go i H) (stop : ∀ i H, n ≤ i → J.stop i H) {g : TG} {tt : TT} {te : TE} {vs : List Nat} {σ : St} {H1 : Hp} {D : Addr} {Qd : Hp → Prop} (Pv : Nat → Hp → Prop) (h0 : Pv 0 (upd H1 D (.lst [])))
    (hs : ∀ i x H H', i < n → J.yld i H x H' → Pv i H → g x (wipe σ vs) H' fun σ2 H2 => wipe σ2 vs = wipe σ vs ∧ tt σ2 H2 fun b H3 =>
      if b = true then te σ2 H3 fun y H4 => ∃ acc, H4 D = some (.lst acc) ∧ acc.length < sizeLine ∧ Pv (i + 1) (upd H4 D (.lst (acc ++ [y]))) else Pv (i + 1) H3) (hd : ∀ H, Pv n H → Qd H) :
    ∃ W : Nat → Nat → Hp → Prop, (∃ m, W 0 m (upd H1 D (.lst []))) ∧ ∀ i m H, W i m H →
      (J.stop i H ∧ Qd H) ∨ (J.go i H ∧ ∃ Nx : Hp → Prop, (∀ H', Nx H' → ∃ m', m' < m ∧ W (i + 1) m' H') ∧ ∀ x H', J.yld i H x H' → g x (wipe σ vs) H' fun σ2 H2 => wipe σ2 vs = wipe σ vs ∧ tt σ2 H2 fun b H3 =>
        if b = true then te σ2 H3 fun y H4 => ∃ acc, H4 D = some (.lst acc) ∧ acc.length < sizeLine ∧ Nx (upd H4 D (.lst (acc ++ [y]))) else Nx H3) := by
  refine ⟨fun i m H => m = n - i ∧ i ≤ n ∧ Pv i H, ⟨n, by simp, Nat.zero_le _, h0⟩, ?_⟩
  rintro i m H ⟨rfl, hi, p⟩
  by_cases hlt : i < n
  · exact .inr ⟨go i H hlt, Pv (i + 1), fun H' p' => ⟨n - (i + 1), by omega, rfl, hlt, p'⟩, fun x H' y => hs i x H H' hlt y p⟩
  · have e : i = n := by omega
    subst e
    exact .inl ⟨stop _ _ (Nat.le_refl _), hd H p⟩
/-- the signs of a text, rising -/
theorem for_str {z : Str} {g : TG} {tb : TS} {D : Ends} {σ : St} {H : Hp} (Pv : Nat → St → Hp → Prop) (h0 : Pv 0 σ H)
    (hs : ∀ i c σ H, z.cps.toList[i]? = some c → Pv i σ H → g (.str (sg c)) σ H fun σ2 H2 => tb { D with nx := Pv (i + 1), ct := Pv (i + 1), bk := D.nx } σ2 H2) (hd : ∀ σ H, Pv z.cps.toList.length σ H → D.nx σ H) :
    ∃ W : Nat → Nat → St → Hp → Prop, (∃ m, W 0 m σ H) ∧ ∀ i m σ H, W i m σ H →
      ((Its z).stop i H ∧ D.nx σ H) ∨ ((Its z).go i H ∧ ∃ N : St → Hp → Prop, (∀ σ' H', N σ' H' → ∃ m', m' < m ∧ W (i + 1) m' σ' H') ∧ ∀ x H', (Its z).yld i H x H' → g x σ H' fun σ2 H2 => tb { D with nx := N, ct := N, bk := D.nx } σ2 H2) := by
  have hl : z.cps.toList.length = z.cps.size := Array.length_toList
  refine for_cnt (n := z.cps.toList.length) (fun i H h => by show i < z.cps.size; omega) (fun i H h => by show z.cps.size ≤ i; omega) Pv h0 (fun i x σ H H' hi y p => ?_) hd
  obtain ⟨rfl, c, hc, rfl⟩ := y
  exact hs i c σ _ (by rw [Array.getElem?_toList]; exact hc) p
/-- the signs of a text from behind -/
theorem for_revS {z : Str} {g : TG} {tb : TS} {D : Ends} {σ : St} {H : Hp} (Pv : Nat → St → Hp → Prop) (h0 : Pv 0 σ H)
    (hs : ∀ i c σ H, z.cps.toList.reverse[i]? = some c → Pv i σ H → g (.str (sg c)) σ H fun σ2 H2 => tb { D with nx := Pv (i + 1), ct := Pv (i + 1), bk := D.nx } σ2 H2) (hd : ∀ σ H, Pv z.cps.toList.length σ H → D.nx σ H) :
    ∃ W : Nat → Nat → St → Hp → Prop, (∃ m, W 0 m σ H) ∧ ∀ i m σ H, W i m σ H →
      ((ItsR z).stop i H ∧ D.nx σ H) ∨ ((ItsR z).go i H ∧ ∃ N : St → Hp → Prop, (∀ σ' H', N σ' H' → ∃ m', m' < m ∧ W (i + 1) m' σ' H') ∧ ∀ x H', (ItsR z).yld i H x H' → g x σ H' fun σ2 H2 => tb { D with nx := N, ct := N, bk := D.nx } σ2 H2) := by
  have hl : z.cps.toList.length = z.cps.size := Array.length_toList
  refine for_cnt (n := z.cps.toList.length) (fun i H h => by show i < z.cps.size; omega) (fun i H h => by show z.cps.size ≤ i; omega) Pv h0 (fun i x σ H H' hi y p => ?_) hd
  obtain ⟨rfl, c, hc, rfl⟩ := y
  exact hs i c σ _ (by rw [List.getElem?_reverse hi, hl, Array.getElem?_toList]; exact hc) p
theorem lc_str {z : Str} {g : TG} {tt : TT} {te : TE} {vs : List Nat} {σ : St} {H1 : Hp} {D : Addr} {Qd : Hp → Prop} (Pv : Nat → Hp → Prop) (h0 : Pv 0 (upd H1 D (.lst [])))
    (hs : ∀ i c H, z.cps.toList[i]? = some c → Pv i H → g (.str (sg c)) (wipe σ vs) H fun σ2 H2 => wipe σ2 vs = wipe σ vs ∧ tt σ2 H2 fun b H3 =>
      if b = true then te σ2 H3 fun y H4 => ∃ acc, H4 D = some (.lst acc) ∧ acc.length < sizeLine ∧ Pv (i + 1) (upd H4 D (.lst (acc ++ [y]))) else Pv (i + 1) H3) (hd : ∀ H, Pv z.cps.toList.length H → Qd H) :
    ∃ W : Nat → Nat → Hp → Prop, (∃ m, W 0 m (upd H1 D (.lst []))) ∧ ∀ i m H, W i m H →
      ((Its z).stop i H ∧ Qd H) ∨ ((Its z).go i H ∧ ∃ Nx : Hp → Prop, (∀ H', Nx H' → ∃ m', m' < m ∧ W (i + 1) m' H') ∧ ∀ x H', (Its z).yld i H x H' → g x (wipe σ vs) H' fun σ2 H2 => wipe σ2 vs = wipe σ vs ∧ tt σ2 H2 fun b H3 =>
        if b = true then te σ2 H3 fun y H4 => ∃ acc, H4 D = some (.lst acc) ∧ acc.length < sizeLine ∧ Nx (upd H4 D (.lst (acc ++ [y]))) else Nx H3) := by
  have hl : z.cps.toList.length = z.cps.size := Array.length_toList
  refine lc_cnt (n := z.cps.toList.length) (fun i H h => by show i < z.cps.size; omega) (fun i H h => by show z.cps.size ≤ i; omega) Pv h0 (fun i x H H' hi y p => ?_) hd
  obtain ⟨rfl, c, hc, rfl⟩ := y
  exact hs i c _ (by rw [Array.getElem?_toList]; exact hc) p
end L2
set_option Elab.async false
set_option linter.all false
set_option maxRecDepth 100000
namespace L2
open PySem PySem.Spec PyProof.Rows
def fsts (cs : List Nat) : Nat → List Nat → Option (List Nat)
  | _, [] => some []
  | i, d :: ds => match nxt cs i (sg d) with
    | none => none
    | some k => (fsts cs (k + 1) ds).map (k :: ·)
theorem nxt_bounds {cs : List Nat} {i k d : Nat} (h : nxt cs i (sg d) = some k) : i ≤ k ∧ k < cs.length ∧ cs[k]? = some d := by
  have key : ∀ (m i : Nat), cs.length ≤ i + m → nxt cs i (sg d) = some k → i ≤ k ∧ k < cs.length ∧ cs[k]? = some d := by
    intro m
    induction m with
    | zero => intro i hi h; rw [nxt_end (show cs.length ≤ i from hi)] at h; cases h
    | succ m ih =>
      intro i hi h
      by_cases hl : i < cs.length
      · have e : cs[i]? = some cs[i] := List.getElem?_eq_getElem hl
        rw [nxt_step e] at h
        by_cases hs : sg cs[i] = sg d
        · rw [if_pos hs] at h
          cases h
          exact ⟨Nat.le_refl _, hl, by rw [e, sg_inj hs]⟩
        · rw [if_neg hs] at h
          obtain ⟨a, b, c⟩ := ih (i + 1) (by omega) h
          exact ⟨by omega, b, c⟩
      · rw [nxt_end (by omega)] at h; cases h
  exact key cs.length i (by omega) h
def lsts (cs : List Nat) : Nat → List Nat → Option (List Nat)
  | _, [] => some []
  | e, d :: ds => match prv cs e (sg d) with
    | none => none
    | some k => (lsts cs k ds).map (k :: ·)
theorem prv_hit {cs : List Nat} {e c : Nat} (h : cs[e]? = some c) : prv cs (e + 1) (sg c) = some e := by
  show (if cs[e]?.map sg = some (sg c) then some e else _) = _
  rw [h]; exact if_pos rfl
theorem prv_miss {cs : List Nat} {e c d : Nat} (h : cs[e]? = some c) (hne : c ≠ d) : prv cs (e + 1) (sg d) = prv cs e (sg d) := by
  show (if cs[e]?.map sg = some (sg d) then some e else _) = _
  rw [h, if_neg]
  intro z
  exact hne (sg_inj (Option.some.inj z))
theorem prv_bounds {cs : List Nat} {d k : Nat} : ∀ (e : Nat), prv cs e (sg d) = some k → k < e ∧ cs[k]? = some d
  | 0, h => by cases h
  | e + 1, h => by
    have h' : (if cs[e]?.map sg = some (sg d) then some e else prv cs e (sg d)) = some k := h
    by_cases hs : cs[e]?.map sg = some (sg d)
    · rw [if_pos hs] at h'
      cases h'
      obtain ⟨c, hc, hcd⟩ := Option.map_eq_some_iff.mp hs
      exact ⟨by omega, by rw [hc, sg_inj hcd]⟩
    · rw [if_neg hs] at h'
      obtain ⟨a, b⟩ := prv_bounds e h'
      exact ⟨by omega, b⟩
abbrev nInt (ks : List Nat) : List V := ks.map fun k => V.int (k : Nat)
theorem nInt_ints (ks : List Nat) : nInt ks = (ks.map fun k : Nat => (k : Int)).map V.int := by rw [List.map_map]; rfl
def AtO (H : Hp) : Option (List Nat) → V → Prop
  | none, x => x = .non
  | some ks, x => ∃ a, x = .ref a ∧ H a = some (.lst (nInt ks))
theorem AtO.same {H H' : Hp} {o : Option (List Nat)} {x : V} (h : AtO H o x) (s : Same H H') : AtO H' o x := by
  cases o with
  | none => exact h
  | some ks => obtain ⟨a, e, q⟩ := h; exact ⟨a, e, s _ _ q⟩
/-- a told list, or none: new -/
def ToldO (H : Hp) (o : Option (List Nat)) (Q : VK) : Prop := match o with
  | none => ∀ H' : Hp, Same H H' → Q .non H'
  | some ks => ∀ (p : Addr) (H' : Hp), Same H H' → H p = none → H' p = some (.lst (nInt ks)) → Q (.ref p) H'
def Few : Option (List Nat) → Prop
  | none => True
  | some ks => ks.length ≤ 1000 ∧ ∀ k ∈ ks, k < 1000000
def spFirst : Sp := fun vs H Q _ => ∃ z y : Str, vs = [.str z, .str y] ∧ z.length ≤ 200 ∧ y.length ≤ 200 ∧ ToldO H (fsts z.cps.toList 0 y.cps.toList) Q
def lastP (cs ds : List Nat) : Option (List Nat) := (lsts cs cs.length ds.reverse).map List.reverse
def spLast : Sp := fun vs H Q _ => ∃ z y : Str, vs = [.str z, .str y] ∧ z.length ≤ 200 ∧ y.length ≤ 200 ∧ ToldO H (lastP z.cps.toList y.cps.toList) Q
def spSameL : Sp := fun vs H Q _ => ∃ (x y : V) (o : Option (List Nat)), vs = [x, y] ∧ AtO H o x ∧ AtO H o y ∧ Few o ∧ Q (.bl true) H
def spPart : Sp := fun vs H Q _ => ∃ (p : Addr) (z : Str), vs = [.ref p, .str z] ∧ HandAt H p ∧ IsRow z ∧ z.length ≤ 200 ∧ ∀ (x : Str) (H' : Hp), IsRow x → x.length ≤ z.length → HandAt H' p → Kp p H H' → Q (.str x) H'
def spOther : Sp := fun vs H Q _ => ∃ (p : Addr) (z : Str), vs = [.ref p, .str z] ∧ HandAt H p ∧ IsRow z ∧ z.length ≤ 80 ∧ ∀ (x : Str) (H' : Hp), IsRow x → x.length ≤ 80 → HandAt H' p → Kp p H H' → Q (.str x) H'
def spRight : Sp := fun vs H Q _ => ∃ z y : Str, vs = [.str z, .str y] ∧ z.length ≤ 200 ∧ y.length ≤ 200 ∧ ∀ H' : Hp, Same H H' → Q (.bl true) H'
theorem fsts_few {cs : List Nat} : ∀ (ds : List Nat) (i : Nat) (ks : List Nat), fsts cs i ds = some ks → ks.length = ds.length ∧ ∀ k ∈ ks, k < cs.length
  | [], i, ks, h => by cases h; exact ⟨rfl, fun _ z => nomatch z⟩
  | d :: ds, i, ks, h => by
    unfold fsts at h
    cases e : nxt cs i (sg d) with
    | none => rw [e] at h; cases h
    | some k =>
      rw [e] at h
      obtain ⟨js, hj, rfl⟩ := Option.map_eq_some_iff.mp h
      obtain ⟨a, b⟩ := fsts_few ds (k + 1) js hj
      refine ⟨by rw [List.length_cons, List.length_cons, a], fun j hj' => ?_⟩
      rcases List.mem_cons.mp hj' with rfl | hj'
      · exact (nxt_bounds e).2.1
      · exact b j hj'
end L2
set_option Elab.async false
set_option linter.all false
set_option maxRecDepth 100000
namespace L2
open PySem PySem.Spec PyProof.Rows
abbrev tabO (ps : Array Value) : Obj := { cls := .none, data := .fields ps }
def TabP (P : Addr) : Heap → Prop := fun h => ∃ ps : Array Value, h.get? P = some (tabO ps) ∧ TriplesOk ps.toList
theorem TabP.ok {Pg : Program} {w : World} {H : Hp} {h : Heap} {P : Addr} (t : TabP P h) : ObjOk Pg w H h P (.ext (TabP P)) :=
  ⟨t, let ⟨ps, e, _⟩ := t; ⟨_, e⟩, fun h1 h2 ⟨ps, e, r⟩ k => ⟨ps, k _ e, r⟩⟩
theorem upd_id {H : Hp} {a : Addr} {o : HO} (e : H a = some o) : upd H a o = H := by
  funext b
  unfold upd
  split
  · rename_i z; rw [z, e]
  · rfl
/-- what is written of a code object -/
structure CodeK (K : PySem.W.Frag) (c P : Addr) : Prop where
  ex : ∃ o vs file tf flags tg inF text tt, K.lookup c = some o ∧ o.cls = .type "code" ∧ o.data = .fields vs ∧ vs[11]? = some (.ref P) ∧ vs.getD 11 .none = .ref P ∧ vs.getD 18 .none = .str file tf ∧
    vs.getD 7 .none = .int flags tg ∧ vs.getD 9 .none = .bool inF ∧ vs.getD 10 .none = .int text tt ∧ c ≠ P
theorem CodeK.at {K : PySem.W.Frag} {c P : Addr} {h : Heap} {ps : Array Value} (C : CodeK K c P) (X : K.In h) (hP : h.get? P = some (tabO ps)) (ht : TriplesOk ps.toList) : h.IsCode c P ps ∧ h.TableAt c P ps := by
  obtain ⟨o, vs, file, tf, flags, tg, inF, text, tt, e1, e2, e3, e4, f3, f4, f5, f6, f7, f11⟩ := C.ex
  have e := X _ _ e1
  exact ⟨⟨o, vs, file, tf, flags, tg, inF, text, tt, _, e, e3, f3, f4, f5, f6, f7, hP, rfl, ht, f11⟩, ⟨o, vs, e, e2, e3, e4⟩, hP⟩
structure BModB (base : Heap) (mg : Str → Option Value) : Prop where
  ex : ∃ bm ob, mg "__builtins__" = some (.ref bm) ∧ bm ≠ builtinsNs ∧ base.get? bm = some ob ∧ ob.cls = .type "module" ∧ ob.dict = some builtinsNs ∧ ob.data = .plain
section
variable {prog : Program} {w : World} {A : Around} {E : Value → Shared → Prop} {s : Shared}
theorem genexprCode_found {env : Env} {c P : Addr} {ps : Array Value} {pos : Pos} {qualname : Str} {scope : Scope} {cv : Value} {Q : Value → Shared → Prop} (hc : env.code = .ref c) (hok : s.heap.IsCode c P ps) (hf : codeAmong pos ps.toList = some cv) (hQ : Q cv s) :
    wpAny (model prog w) A (genexprCode env pos qualname scope) Q E s := by
  obtain ⟨o, vs, file, tf, flags, tg, inF, text, tt, op, ho, hd, h11, h2, h7, h9, h10, hop, hpd, htr, hne⟩ := id hok
  unfold genexprCode codeAt
  rw [hc, if_neg (show ¬ ((Value.ref c == Value.none) = true) from Bool.false_ne_true)]
  refine wpAny_bind (wpAny_fieldsOf ho hd ?_)
  rw [h11]
  refine wpAny_bind (wpAny_fieldsOf hop hpd ?_)
  rw [hf]
  exact wpAny_pure hQ
theorem genexprCode_any {env : Env} {c P : Addr} {ps : Array Value} {pos : Pos} {qualname : Str} {scope : Scope} (hc : env.code = .ref c) (hok : s.heap.IsCode c P ps) (htab : s.heap.TableAt c P ps) :
    wpAny (model prog w) A (genexprCode env pos qualname scope) (fun _ s3 => ∃ h3 tk, s3 = { s with heap := h3, toks := tk } ∧ Heap.ExtBut P s.heap h3 ∧ s.heap.objs.size ≤ h3.objs.size ∧ TabP P h3) E s := by
  obtain ⟨_, _, _, _, _, _, _, _, _, _, _, _, _, _, _, _, _, _, _, htr, _⟩ := id hok
  cases hf : codeAmong pos ps.toList with
  | some cv => exact genexprCode_found hc hok hf ⟨s.heap, s.toks, rfl, Heap.ExtBut.refl _ _, Nat.le_refl _, ps, htab.2, htr⟩
  | none =>
    refine wpAny_genexprCodeX hc hok htab hf fun c' h' tk hx hge hlt hcode _ htab' _ => ⟨h', tk, rfl, hx, Nat.le_trans hge (Nat.le_of_lt hlt), _, htab'.2, ?_⟩
    obtain ⟨_, _, _, _, _, _, _, _, _, _, _, _, _, _, _, _, _, _, hpd', htr', _⟩ := hcode
    exact htr'
end
theorem Inv.grow {X : Cx} {pins : List (Addr × Obj)} {σ : St} {H : Hp} {s : Shared} {P : Addr} {h' : Heap} {t' : Nat} (I : Inv X pins σ H s) (hP : H P = some (.ext (TabP P))) (hx : Heap.ExtBut P s.heap h') (ht : TabP P h') :
    Inv X pins σ H { s with heap := h', toks := t' } := by
  have := I.write (x := P) (e := P) (o := .ext (TabP P)) (h' := h') (t' := t') (by rw [hP]; trivial) (.inl rfl) (fun b u hb e => hx b u hb e) (let ⟨ps, e, _⟩ := ht; ⟨_, e⟩) ht.ok
  rw [upd_id hP] at this
  exact this
/-- a record of ours has turned, generators were made and ran -/
theorem Inv.ran {X : Cx} {pins : List (Addr × Obj)} {σ : St} {H : Hp} {s : Shared} {h' : Heap} {it : Addr} {g' : Array GenState} {d' : Drawn} {t' : Nat} (I : Inv X pins σ H s) (k : ∀ b o, b ≠ it → s.heap.get? b = some o → h'.get? b = some o)
    (f : FpOk X pins H it) (hg : AllBare g') : Inv X pins σ H { s with heap := h', gens := g', drawn := d', toks := t' } := by
  obtain ⟨f0, f1, f2, f3, f4, f5⟩ := f
  have nit : ∀ b u, H b = some u → b ≠ it := fun b u e z => by rw [z, f0] at e; cases e
  refine I.step (ch := [it]) (fun b hb => ?_) (fun b o _ _ hc e _ => k b o (fun z => hc (by simp [z])) e) (fun b o _ _ hc e _ => ⟨o.slots, k b o (fun z => hc (by simp [z])) e⟩) (fun _ _ _ _ n => n)
    (fun b o hc e => ⟨o, k b o (fun z => hc (by simp [z])) e⟩) (fun _ _ e => e) (fun _ _ _ e => e) (fun b ps e => ⟨#[], by rw [e]; simp⟩) (fun m hm => ?_) (fun b u e => ?_) hg
  · have e : b = it := by simpa using hb
    subst e
    exact ⟨f3, f1, f4, f5⟩
  · obtain ⟨o, es, ep, ho, r⟩ := hm
    exact ⟨o, es, ep, k _ o (Ne.symm f1) ho, r⟩
  · refine (I.hok b u e).stay (fun c v hc q => k c v ?_ q) (fun _ q => q) fun _ _ q => q
    rcases hc with rfl | hc
    · exact nit _ _ e
    · exact nit _ _ hc
end L2
set_option Elab.async false
set_option linter.all false
set_option maxRecDepth 100000
namespace L2
open PySem PySem.Spec PyProof.Rows
/-- what is asked of each sign -/
def ElS (prog : Program) (w : World) (D U : Nat) (scope : Scope) (cl : List (Str × Addr)) (x : Str) (elt : Expr) (env : Env) (pr : Nat → Bool) : Prop :=
  ∀ (A' : Around) (E' : Value → Shared → Prop) (C : Addr) (code : Value) (c : Nat) (u : Tok) (s₂ : Shared) (m₂ : Str → Option Value), A'.handled = none → A'.depth ≤ D → A'.units ≤ U → s₂.heap.Ns C m₂ → m₂ x = some (.str ⟨#[c]⟩ u) →
    wpAny (model prog w) A' (eval elt (genEnv scope cl C code builtinsNs env)) (fun y s₃ => y = .bool (pr c) ∧ Keeps s₂ s₃) E' s₂
def tAllS (P : Addr) (pr : Nat → Bool) (te : TE) : TE := fun σ H Q => te σ H fun v H1 => ∃ z : Str, v = .str z ∧ H1 P = some (.ext (TabP P)) ∧ Q (.bl (z.cps.toList.all pr)) H1
theorem all_at (l : List Nat) (pr f : Nat → Bool) (hf : ∀ j c, l[j]? = some c → f j = pr c) : (List.range l.length).all f = l.all pr := by
  rw [Bool.eq_iff_iff, List.all_eq_true, List.all_eq_true]
  constructor
  · intro h b hb
    obtain ⟨j, hj, rfl⟩ := List.getElem_of_mem hb
    rw [← hf j _ (List.getElem?_eq_getElem hj)]
    exact h j (List.mem_range.mpr hj)
  · intro h j hj
    have hj' := List.mem_range.mp hj
    rw [hf j _ (List.getElem?_eq_getElem hj')]
    exact h _ (List.getElem_mem hj')
theorem passing_all (n : Nat) : passing (fun _ => true) n 0 = List.range n := by simp [passing]
section
variable {X : Cx} {iter elt : Expr} {te : TE} {x : Str} {px p gpos pos : Pos} {scope : Scope} {cl : List (Str × Addr)} {c P : Addr} {k : Nat} {pr : Nat → Bool}
theorem pe_allS (hg : Gl X "all") (hm : X.mg "all" = none) (hr : Room k X.A) (hcode : X.env.code = .ref c) (ck : CodeK X.K c P) (bm : BModB X.base X.mg) (hi : PE X iter te)
    (hel : ElS X.prog X.w (X.A.depth + 1) (X.A.units + 8) scope cl x elt X.env pr)
    (hco : scope.isCoroutine = false := by rfl) (hclos : closureFor scope X.env = pure cl := by rfl) (hcell : ∀ y ∈ scope.names, y.2 ≠ .cell := by decide) (h0 : scope.names.lookup (".0" : Str) = some NameKind.local := by rfl)
    (hx : scope.names.lookup x = some .local := by rfl) (hkind : scope.kind = .function := by rfl) (hs : ∀ y, genFold iter X.env y = pure y := by intro _; rfl)
    (he : starEach [Expr.GeneratorExp elt [⟨.Name x px, iter, [], 0⟩] scope gpos] X.env = [(false, eval (.GeneratorExp elt [⟨.Name x px, iter, [], 0⟩] scope gpos) X.env)] := by rfl) :
    PE X (.Call (.Name "all" p) [.GeneratorExp elt [⟨.Name x px, iter, [], 0⟩] scope gpos] [] pos) (tAllS P pr te) := by
  intro pins s σ H Q I h
  refine wpAny_Call_Name_kw (ld_blt I hg hm (u := .builtin "all") (by decide +kernel) ?_)
  refine PyProof.Rows.callWith_builtin1 ?_ he rfl
  rw [he]
  show wpAny _ _ (spliced ((false, eval _ X.env) :: backTo pos [])) _ _ s
  refine Calls.spliced_cons (wpAny_GeneratorExp_walksQD hr.hd hco hclos hcell h0 hx hkind hr.depth (thn (hi pins s σ H _ I h) fun v s1 ⟨y, H1, I1, r1, z, ez, hP, q⟩ => ?_) hs)
  subst ez
  obtain ⟨t, rfl⟩ := r1
  refine wpAny_pyIter_strU ?_
  have I2 : Inv X pins σ H1 { s1 with heap := s1.heap.push { cls := .type (strIterType z), data := .fields #[.str z t, .int 0 0] } } := I1.kept (t' := s1.toks) fun b o e => Heap.get?_push_of_some _ e
  have hit2 : (s1.heap.push { cls := .type (strIterType z), data := .fields #[.str z t, .int 0 0] }).IsStrIter s1.heap.objs.size (strIterType z) z t 0 := ⟨_, Heap.get?_push_size _ rfl, rfl, rfl⟩
  refine ⟨I2.nolimit, ?_⟩
  obtain ⟨⟨ps, hps, htr⟩, _⟩ := I2.hok P _ hP
  obtain ⟨isC, tabA⟩ := ck.at I2.kIn hps htr
  refine wpAny_mono (genexprCode_any (prog := X.prog) (w := X.w) (A := X.A) (E := X.xe) hcode isC tabA) (fun code s3 h3 => ?_) fun _ _ e => e
  obtain ⟨h3, tk3, rfl, hx3, hsz3, ht3⟩ := h3
  have I3 : Inv X pins σ H1 { s1 with heap := h3, toks := tk3 } := I2.grow (t' := tk3) hP hx3 ht3
  have hPlt : P < s1.heap.objs.size := I1.hok.lt hP
  have hPI : s1.heap.objs.size ≠ P := Nat.ne_of_gt hPlt
  have hit3 : h3.IsStrIter s1.heap.objs.size (strIterType z) z t 0 := let ⟨o, e, r⟩ := hit2; ⟨o, hx3 _ _ hPI e, r⟩
  have hIlt : s1.heap.objs.size < h3.objs.size := by
    have := Heap.size_push s1.heap { cls := .type (strIterType z), data := .fields #[.str z t, .int 0 0] }
    have h2 : (s1.heap.push { cls := .type (strIterType z), data := .fields #[.str z t, .int 0 0] }).objs.size ≤ h3.objs.size := hsz3
    omega
  obtain ⟨bmA, ob, b1, b2, b3, b4, b5, b6⟩ := bm.ex
  refine wpAny_builtinsFor (m := X.mg) (by rw [I.ok.glob]; exact I3.mod.glob.keeps I3.bk) b1 b2 (I3.bk _ _ b3) b4 b5 b6 ?_
  have W : ∀ A' : Around, A'.handled = none → Walks X.prog X.w A' s1.heap.objs.size [s1.heap.objs.size] [s1.heap.objs.size] z.cps.size (SignAt z) (fun i h => h.IsStrIter s1.heap.objs.size (strIterType z) z t i) := fun A' hA => by
    rcases strIterType_of z with e | e
    · rw [e]; exact Walks.strAscii hA _ z t
    · rw [e]; exact Walks.strWide hA _ z t
  have hclt : cStatics < s1.heap.objs.size := let ⟨_, hn, _⟩ := I1.nolimit; hn.lt
  refine ⟨s1.heap.objs.size, [s1.heap.objs.size], [s1.heap.objs.size], z.cps.size, SignAt z, _, fun _ => true, fun i y => ∃ c, z.cps[i]? = some c ∧ y = .bool (pr c), rfl, W, hit3, fun b hb => ?_, I3.nolimit, fun hmem => ?_, fun href hh => ⟨?_, ?_⟩, fun a h₅ tk gs hgb hag hsz₅ hk₅ WS hat => ?_⟩
  · rw [List.mem_singleton.mp hb]; exact hIlt
  · exact absurd (List.mem_singleton.mp hmem) (Nat.ne_of_lt hclt)
  · intro A' E' i v s₂ m₂ hA _ _ _ _ _ _
    exact wpAny_pure ⟨rfl, s₂.heap, s₂.toks, rfl, fun _ _ e => e⟩
  · intro A' E' i v s₂ m₂ hA hD hU hv _ hn hmx _
    obtain ⟨c', u, hc', rfl⟩ := hv
    exact wpAny_mono (hel A' E' _ code c' u s₂ m₂ hA hD hU hn hmx) (fun y s₃ r => ⟨⟨c', hc', r.1⟩, r.2⟩) fun _ _ e => e
  · refine Calls.spliced_nil ?_
    have WS1 := WS.in4_1
    refine call_all_walkS (WS1.self 0 _ _ _ hat ⟨a, _, _, _, _, _, _, fun j => match z.cps[j]? with | some c => pr c | none => true, rfl, WS1, hat, ?_, fun s' hm' => ?_⟩)
    · intro j v s Q E hv hQ
      obtain ⟨i, hi', c', hc', rfl⟩ := hv
      rw [passing_all] at hi'
      have : i = j := by
        obtain ⟨hl, e⟩ := List.getElem?_eq_some_iff.mp hi'
        rw [List.getElem_range] at e; exact e.symm
      subst this
      simp only [hc'] at hQ
      exact wpAny_truthy_bool hQ
    · obtain ⟨hh, g', d', tt, os'⟩ := s'
      have ho : os' = s1.os := hm'.os
      subst ho
      have hb : AllBare g' := AllBare.movedS (AllBare.push I3.bare hgb) hm'
      have kk : ∀ b o, b ≠ s1.heap.objs.size → h3.get? b = some o → hh.get? b = some o := fun b o hb e => hm'.heap b o (fun hmem => by
        rcases List.mem_cons.mp hmem with e1 | e1
        · exact absurd (Heap.lt_size e) (by rw [e1]; exact Nat.lt_irrefl _)
        · exact hb (List.mem_singleton.mp e1)) (hk₅ b o e)
      have I6 : Inv X pins σ H1 { s1 with heap := hh, gens := g', drawn := d', toks := tt } := I3.ran (h' := hh) (it := s1.heap.objs.size) kk (I1.fpOk (Nat.le_refl _) (I1.hok.fresh (Nat.le_refl _))) hb
      refine ⟨.bl _, H1, I6, ?_, q⟩
      show Value.bool _ = Value.bool _
      congr 1
      rw [passing_all, List.length_range]
      rw [← Array.length_toList]
      refine all_at z.cps.toList pr _ fun j c' hj => ?_
      rw [Array.getElem?_toList] at hj
      simp only [hj]
end
end L2
set_option Elab.async false
set_option linter.all false
set_option maxRecDepth 100000
namespace L2
open PySem PySem.Spec PyProof.Rows
/-- the rule for a def whose code object is known -/
theorem Fun.okC {P : Program} {w : World} {K : PySem.W.Frag} {mg : Str → Option Value} {base : Heap} {x qual : Str} {st : Stmt} {f c : Addr} {fd : FuncData} {N ps : List Str} {k : Nat} {sp : Sp} (F : Fun K x qual st f fd) (hc : fd.code = .ref c) (S : FnScope N ps (defScope st)) (len : ∀ vs H Q E, sp vs H Q E → vs.length = ps.length)
    (hbody : ∀ (A : Around) (outer : List Env) (s : Shared) (H : Hp) (vs : List V) (Q : VK) (E : XK), Room k (A.deeper (envOfC qual (defScope st) s.heap.objs.size f (.ref c))) → sp vs H Q E →
      ∃ t, PSs (cxOf CX0 P w K mg base N qual (defScope st) f (.ref c) A outer s H E).nox (defBody st) t ∧ t { nx := fun _ H' => Q .non H', rt := Q } (start N vs) H) : FnOk P w K mg base CX0 (k + 1) f fd ps sp := by
  obtain ⟨oc, od, kV, doc, pm, an, cdv, ct, osl, rfl, lk, hcd⟩ := F.ex
  have e : cdv = .ref c := hc
  subst e
  refine fn_of lk hcd S len fun A outer s H vs Q E hr hsp => ?_
  obtain ⟨t, h, q⟩ := hbody A outer s H vs Q E hr hsp
  exact ⟨t, h.nox, q⟩
def OnlyT (tabs : List Addr) (H : Hp) : Prop := ∀ b, H b = none ∨ (∃ o xs, H b = some (.frz o (.lst xs))) ∨ (b ∈ tabs ∧ H b = some (.ext (TabP b)))
def Tabs (tabs : List Addr) (H : Hp) : Prop := ∀ P ∈ tabs, H P = some (.ext (TabP P))
theorem Tabs.same {tabs : List Addr} {H H' : Hp} (t : Tabs tabs H) (s : Same H H') : Tabs tabs H' := fun P hP => s _ _ (t P hP)
theorem law_callT {P : Program} {w : World} {K : PySem.W.Frag} {mg mb : Str → Option Value} {CX : CXT} {k : Nat} {fa a : Addr} {fd : FuncData} {x : Str} {sp : Sp} {s₁ : Shared} {vs : List Value} {ns : List Int} {tabs : List Addr}
    (KX : K.In s₁.heap) (hns : s₁.heap.Ns mainGlobals mg) (hb : s₁.heap.Ns builtinsNs mb) (hbb : ∀ x : Str, x ≠ "__name__" → mb x = bootBuiltins x) (hlim : s₁.heap.NoLimit) (hg : s₁.gens = #[])
    (ha : s₁.heap.get? a = some { cls := .type "list", data := .seq vs.toArray }) (hi : IntsAre vs ns) (hl : ns.length ≤ sizeLine) (hr : Room k callerA)
    (hT : ∀ P ∈ tabs, s₁.heap.get? P = some (tabO #[]) ∧ isCodeTable s₁.heap P) (hKt : ∀ P ∈ tabs, K.lookup P = none) (hbm : BModB s₁.heap mg)
    (F : ∀ base : Heap, K.In base → base.Ns mainGlobals mg → BModB base mg → FnOk P w K mg base CX k fa fd [x] sp) (hbind : ∀ (s : Shared) (u : Value), BindsTo s fd ⟨[u], []⟩ [(x, u)])
    (hsp : ∀ H : Hp, OnlyT tabs H → Tabs tabs H → SqL K H a (ns.map V.int) → sp [.ref a] H (fun v H' => v = .bl true ∧ Tabs tabs H') fun _ _ _ => False)
    (hCX : ∀ H e s', CX [] H s₁ (fun _ _ _ => False) e s' → False) :
    codeAny (model P w) callerA (.call (.ref fa) ⟨[.ref a], []⟩) (fun r s' => r = .ok (.ret (.bool true)) ∧ OldK s₁.heap s'.heap ∧ s'.os = s₁.os ∧ AllBare s'.gens) s₁ := by
  have rv := vals_ints hi
  have lenV := hi.length
  have hat : a ∉ tabs := fun h => by
    have := (hT a h).1
    rw [ha] at this; cases this
  have core : ∀ H : Hp, OnlyT tabs H → Tabs tabs H → SqL K H a (ns.map V.int) → HOk P w H s₁.heap → (∀ b, H b ≠ none → b = a ∨ b ∈ tabs) → (H a ≠ none → K.lookup a = none) →
      codeAny (model P w) callerA (.call (.ref fa) ⟨[.ref a], []⟩) (fun r s' => r = .ok (.ret (.bool true)) ∧ OldK s₁.heap s'.heap ∧ s'.os = s₁.os ∧ AllBare s'.gens) s₁ := by
    intro H hO hTb hS hok hA hK
    have base_of : ∀ {b : Addr} {o : Obj}, s₁.heap.get? b = some o → H b = none → (hidT s₁.heap H).get? b = some o := fun e n => hidT_get e n
    have noA : ∀ {b : Addr} {o : Obj}, s₁.heap.get? b = some o → o.cls ≠ .none → o.cls ≠ .type "list" → H b = none := fun {b o} e c1 c2 => by
      cases q : H b with
      | none => rfl
      | some u =>
        rcases hA b (by rw [q]; simp) with e' | e'
        · subst e'
          rw [ha] at e; cases e
          exact absurd rfl c2
        · have := (hT b e').1
          rw [e] at this; cases this
          exact absurd rfl c1
    have noD : ∀ {b : Addr} {o : Obj} {es : Array DictEntry} {ep : Nat}, s₁.heap.get? b = some o → o.data = .dict es ep → H b = none := fun {b o es ep} e d => by
      cases q : H b with
      | none => rfl
      | some u =>
        rcases hA b (by rw [q]; simp) with e' | e'
        · subst e'
          rw [ha] at e; cases e
          have d' : Data.seq vs.toArray _ = Data.dict es ep := d
          cases d'
        · have := (hT b e').1
          rw [e] at this; cases this
          cases d
    have nsK : ∀ {b : Addr} {m : Str → Option Value}, s₁.heap.Ns b m → (hidT s₁.heap H).Ns b m := fun {b m} ⟨o, es, ep, e, d, r⟩ => ⟨o, es, ep, base_of e (noD e d), d, r⟩
    have hKb : K.In (hidT s₁.heap H) := fun b o e => base_of (KX b o e) (by
      cases q : H b with
      | none => rfl
      | some u =>
        rcases hA b (by rw [q]; simp) with e' | e'
        · subst e'
          rw [hK (by rw [q]; simp)] at e; cases e
        · rw [hKt b e'] at e; cases e)
    have hbmB : BModB (hidT s₁.heap H) mg := by
      obtain ⟨bm, ob, b1, b2, b3, b4, b5, b6⟩ := hbm.ex
      exact ⟨bm, ob, b1, b2, base_of b3 (noA b3 (by rw [b4]; simp) (by rw [b4]; simp)), b4, b5, b6⟩
    have hM : Mod K mg (hidT s₁.heap H) := ⟨hKb, nsK hns, ⟨mb, nsK hb, hbb⟩, let ⟨mc, h1, h2⟩ := hlim; ⟨mc, nsK h1, h2⟩⟩
    have e0 : Env0 P w K mg (hidT s₁.heap H) callerA [] s₁ H := ⟨rfl, hM, fun b o e => of_hidT e, Nat.le_of_eq (hidT_size _ _), trivial, fun b hb => absurd (show b ∈ ([] : List Addr) from hb) (by simp), hok, .of_eq hg⟩
    refine codeAny_mono ((F _ hKb (nsK hns) hbmB).run callerA [] s₁ H ⟨[.ref a], []⟩ [.ref a] [.ref a] _ _ hr e0 (hbind s₁ (.ref a)) (.cons rfl .nil) (hsp H hO hTb hS)) fun r s' h => ?_
    cases r with
    | error e => exact (hCX H e s' h).elim
    | ok fl =>
      cases fl with
      | next => exact False.elim h
      | brk => exact False.elim h
      | cont => exact False.elim h
      | ret u =>
        obtain ⟨v, H', os, bare, un, hok', r', q⟩ := h
        obtain ⟨q', qT⟩ := q
        subst q'
        obtain rfl : u = Value.bool true := r'
        have key : ∀ b o, s₁.heap.get? b = some o → s'.heap.get? b = some o ∨ (b ∈ tabs ∧ o = tabO #[] ∧ ∃ ps, s'.heap.get? b = some (tabO ps)) := fun b o e => by
          cases q : H b with
          | none => exact .inl (un.keep b o e q (by intro z; exact absurd (show b ∈ ([] : List Addr) from z) (by simp)) (by simp))
          | some u =>
            rcases hO b with z | ⟨ob, xs, z⟩ | ⟨z1, z2⟩
            · rw [q] at z; cases z
            · have z2 := un.frzs b ob _ z
              obtain ⟨e1, _⟩ := hok b _ z
              obtain ⟨e2, _⟩ := hok' b _ z2
              rw [e] at e1; cases e1
              exact .inl e2
            · obtain ⟨⟨ps, e3, _⟩, _⟩ := hok' b _ (qT b z1)
              have := (hT b z1).1
              rw [e] at this
              exact .inr ⟨z1, Option.some.inj this, ps, e3⟩
        refine ⟨rfl, ⟨fun b o e => ?_, fun b o e => ?_⟩, os, bare⟩
        · rcases key b o e with z | ⟨z1, rfl, ps, z⟩
          · exact .inl z
          · exact .inr (.inl ⟨(hT b z1).2, rfl, #[], ps, rfl, by simpa using z⟩)
        · rcases key b o e with z | ⟨z1, rfl, ps, z⟩
          · exact ⟨_, z⟩
          · exact ⟨_, z⟩
  have okT : ∀ (H : Hp) (b : Addr), b ∈ tabs → ObjOk P w H s₁.heap b (.ext (TabP b)) := fun H b hb => TabP.ok ⟨#[], (hT b hb).1, trivial⟩
  cases hk : K.lookup a with
  | some o =>
    have e := KX a o hk
    rw [ha] at e
    cases e
    refine core (fun b => if b ∈ tabs then some (.ext (TabP b)) else none) (fun b => ?_) (fun b hb => if_pos hb) (.inr ⟨_, vs.toArray, _, hk, rfl, rfl, rfl, by rw [List.size_toArray, lenV]; exact hl, by simpa using rv⟩) (fun b u z => ?_) (fun b z => ?_) fun z => absurd (if_neg hat) z
    · by_cases hb : b ∈ tabs
      · exact .inr (.inr ⟨hb, if_pos hb⟩)
      · exact .inl (if_neg hb)
    · by_cases hb : b ∈ tabs
      · have z' := (if_pos hb).symm.trans z
        cases z'
        exact okT _ b hb
      · have z' := (if_neg hb).symm.trans z
        cases z'
    · by_cases hb : b ∈ tabs
      · exact .inr hb
      · exact absurd (if_neg hb) z
  | none =>
    refine core (fun b => if b ∈ tabs then some (.ext (TabP b)) else if b = a then some (.frz { cls := .type "list", data := .seq vs.toArray } (.lst (ns.map V.int))) else none) (fun b => ?_) (fun b hb => if_pos hb)
      (.inl (.inr ⟨{ cls := .type "list", data := .seq vs.toArray }, (if_neg hat).trans (if_pos rfl)⟩)) (fun b u z => ?_) (fun b z => ?_) fun _ => hk
    · by_cases hb : b ∈ tabs
      · exact .inr (.inr ⟨hb, if_pos hb⟩)
      · by_cases hb2 : b = a
        · exact .inr (.inl ⟨_, _, (if_neg hb).trans (if_pos hb2)⟩)
        · exact .inl ((if_neg hb).trans (if_neg hb2))
    · by_cases hb : b ∈ tabs
      · have z' := (if_pos hb).symm.trans z
        cases z'
        exact okT _ b hb
      · by_cases hb2 : b = a
        · have z' := ((if_neg hb).trans (if_pos hb2)).symm.trans z
          cases z'
          subst hb2
          exact ⟨ha, by rw [List.length_map]; exact hl, vs, _, rv, ha⟩
        · have z' := ((if_neg hb).trans (if_neg hb2)).symm.trans z
          cases z'
    · by_cases hb : b ∈ tabs
      · exact .inr hb
      · by_cases hb2 : b = a
        · exact .inl hb2
        · exact absurd ((if_neg hb).trans (if_neg hb2)) z
def Makers (q : Program) (K : PySem.W.Frag) : List (Str × Addr) → Prop
  | [] => True
  | (x, P) :: r => (∃ d f c od sl fd oc, (recsOf q).find? (fun e => e.name == x) = some d ∧ PySem.W.nsIn K mainGlobals x = some (some (.ref f)) ∧ K.lookup f = some ⟨oc, od, .func fd, sl⟩ ∧ fd.code = .ref c ∧ CodeK K c P ∧ K.lookup P = none) ∧ Makers q K r
theorem Makers.of {q : Program} {K : PySem.W.Frag} {loose : List Str} {mean : ExcName → Option Value} {mg mb : Str → Option Value} {h : Heap} (T : Top q loose mean mg mb h) (X : K.In h) : ∀ {l : List (Str × Addr)}, Makers q K l →
    ∀ P ∈ l.map (·.2), h.get? P = some (tabO #[]) ∧ isCodeTable h P ∧ K.lookup P = none
  | [], _, P, hP => by cases hP
  | (x, P0) :: r, ⟨⟨d, f, c, od, sl, fd, oc, hd, hn, hf, hc, ck, hk⟩, hr⟩, P, hP => by
    rcases List.mem_cons.mp hP with rfl | hP
    · obtain ⟨a, o, fd', c', P', h1, h2, h3, h4, h5, h6⟩ := T.tab d (List.mem_of_find?_eq_some hd)
      have hx : d.name = x := beq_iff_eq.mp (List.find?_some (p := fun e : DefRec => e.name == x) hd)
      rw [hx, PySem.W.mg_of X T.g hn] at h1
      cases h1
      rw [X _ _ hf] at h2
      cases h2
      cases h3
      rw [hc] at h4
      cases h4
      obtain ⟨o2, vs, file, tf, flags, tg, inF, text, tt, e1, e2, e3, e4, f3, f4, f5, f6, f7, f11⟩ := ck.ex
      obtain ⟨⟨o3, vs3, g1, g2, g3, g4⟩, g5⟩ := id h6
      rw [X _ _ e1] at g1
      cases g1
      rw [e3] at g3
      cases g3
      rw [e4] at g4
      cases g4
      exact ⟨g5, h6.isCodeTable, hk⟩
    · exact Makers.of T X hr P hP
theorem walk_ofT {l : PySem.W.OpenLaw} {n k : Nat} {q : Program} {loose : List Str} {XP : (Str → Option Value) → Heap → Prop} {YP : World → Heap → Prop} {d : DefRec} {K : Params → PySem.W.Frag} {CX : World → CXT} {sp : World → Sp} {x : Str} (mks : List (Str × Addr))
    (hn : l.most = some n) (hn2 : n ≤ sizeLine) (hdf : d.params.defaults = []) (hr : Room k callerA)
    (hY : ∀ (w : World) (h : Heap), YP w h → (K w.params).In h)
    (hmk : ∀ w : World, Makers q (K w.params) mks)
    (F : ∀ (w : World) (mg : Str → Option Value) (fa : Addr) (h : Heap), (K w.params).In h → h.Ns mainGlobals mg → mg d.name = some (.ref fa) →
      ∃ fd : FuncData, (∀ (s : Shared) (u : Value), BindsTo s fd ⟨[u], []⟩ [(x, u)]) ∧
        ∀ base : Heap, (K w.params).In base → base.Ns mainGlobals mg → BModB base mg → FnOk l.prog w (K w.params) mg base (CX w) k fa fd [x] (sp w))
    (hsp : ∀ (w : World) (H : Hp) (a : Addr) (ns : List Int), ns.length ≤ n → OnlyT (mks.map (·.2)) H → Tabs (mks.map (·.2)) H → SqL (K w.params) H a (ns.map V.int) → sp w [.ref a] H (fun v H' => v = .bl true ∧ Tabs (mks.map (·.2)) H') fun _ _ _ => False)
    (hCX : ∀ (w : World) (H : Hp) (s : Shared) (e : Value) (s' : Shared), CX w [] H s (fun _ _ _ => False) e s' → False) :
    PySem.W.WalkO q loose XP YP l.row.toRowW d [] (fun f vs => PySem.call f vs) := by
  refine Att.attach_call hn hdf fun w s₀ s₁ mg mb fa o pm cd doc a vs ns G Y ho hd hcd hmg hobj hints hlen hg => ?_
  have KX := hY w _ Y
  obtain ⟨fd, hb, hF⟩ := F w mg fa _ KX G.T.g hmg
  have hM := Makers.of G.T KX (hmk w)
  exact law_callT KX G.T.g G.T.b G.T.builtins G.T.nolimit hg hobj hints (Nat.le_trans hlen hn2) hr (fun P hP => ⟨(hM P hP).1, (hM P hP).2.1⟩) (fun P hP => (hM P hP).2.2) ⟨G.T.bmain⟩ hF hb (fun H hO hT hS => hsp w H a ns hlen hO hT hS) fun H e s' => hCX w H s₁ e s'
def spLawT (K : PySem.W.Frag) (tabs : List Addr) : Sp := fun vs H Q _ => ∃ (a : Addr) (ns : List Int), vs = [.ref a] ∧ SqL K H a (ns.map V.int) ∧ ns.length ≤ 63 ∧ OnlyT tabs H ∧ Tabs tabs H ∧ ∀ H', Tabs tabs H' → Q (.bl true) H'
theorem Scr.ofT {K : PySem.W.Frag} {tabs : List Addr} {H : Hp} {a : Addr} {xs : List V} (h : SqL K H a xs) (O : OnlyT tabs H) : Scr K H a xs := by
  rcases h with (h | ⟨o, h⟩) | h
  · rcases O a with z | ⟨o, ys, z⟩ | ⟨_, z⟩
    · rw [z] at h; cases h
    · rw [z] at h; cases h
    · rw [z] at h; cases h
  · exact .inl ⟨o, h⟩
  · exact .inr h
end L2
set_option Elab.async false
set_option linter.all false
set_option maxRecDepth 100000
namespace L2
open PySem PySem.Spec PyProof.Rows
theorem el_between {prog : Program} {w : World} {D U : Nat} {scope : Scope} {cl : List (Str × Addr)} {x lo hi : Str} {env : Env} {j1 j2 : Nat} {p1 p2 p3 pos : Pos} (hx : scope.names.lookup x = some .local) (hkind : scope.kind = .function) (hd : (x == ("__debug__" : Str)) = false := by decide) :
    ElS prog w D U scope cl x (.Compare (.Constant (.str lo) j1 p1) [.LtE, .LtE] [.Name x p2, .Constant (.str hi) j2 p3] pos) env (fun c => !decide ([c] < lo.cps.toList) && !decide (hi.cps.toList < [c])) := by
  intro A' E' C code c u s₂ m₂ hA _ _ hn hm
  have kp : ∀ tk : Nat, Keeps s₂ { s₂ with toks := tk } := fun tk => ⟨s₂.heap, tk, rfl, fun _ _ e => e⟩
  refine Compare_chain (Calls.Constant_str ?_) (by with_unfolding_all rfl)
  refine chain_link (wpAny_Name (wpAny_loadName_local (m := m₂) hkind hx hn hm ?_) hd)
  refine PySem.P.le_str ?_
  refine wpAny_truthy_bool ?_
  cases hb : (!decide ((Str.mk #[c]).cps.toList < lo.cps.toList)) with
  | false =>
    refine ite_ff ⟨?_, kp _⟩
    show Value.bool false = Value.bool ((!decide ((Str.mk #[c]).cps.toList < lo.cps.toList)) && _)
    rw [hb]; rfl
  | true =>
    refine ite_tt (chain_last (Calls.Constant_str (PySem.P.le_str ⟨?_, kp _⟩)))
    show Value.bool _ = Value.bool ((!decide ((Str.mk #[c]).cps.toList < lo.cps.toList)) && _)
    rw [hb, Bool.true_and]
def rowB (z : Str) : Bool := z.cps.toList.all fun c => !decide ([c] < (Str.ofString "a").cps.toList) && !decide ((Str.ofString "z").cps.toList < [c])
theorem lt_one (a b : Nat) : ([a] < [b]) ↔ a < b := by
  constructor
  · intro h
    cases h with
    | rel h => exact h
    | cons h => exact absurd h (by simp)
  · intro h; exact List.Lex.rel h
theorem rowB_iff (z : Str) : rowB z = true ↔ IsRow z := by
  unfold rowB IsRow
  rw [List.all_eq_true]
  have ea : (Str.ofString "a").cps.toList = [97] := by decide +kernel
  have ez : (Str.ofString "z").cps.toList = [122] := by decide +kernel
  rw [ea, ez]
  constructor
  · intro h c hc
    have := h c hc
    simp only [Bool.and_eq_true, Bool.not_eq_true', decide_eq_false_iff_not, lt_one] at this
    omega
  · intro h c hc
    have := h c hc
    simp only [Bool.and_eq_true, Bool.not_eq_true', decide_eq_false_iff_not, lt_one]
    omega
theorem mk_codeK {K : PySem.W.Frag} {c P : Addr} {oc : Value} {od : Option Addr} {vs : Array Value} {sl : Array (Option Value)} {file : Str} {tf : Tok} {flags : Int} {tg : Tok} {inF : Bool} {text : Int} {tt : Tok}
    (l : K.lookup c = some ⟨oc, od, .fields vs, sl⟩) (h1 : oc = .type "code") (h2 : vs[11]? = some (.ref P)) (h3 : vs.getD 11 .none = .ref P) (h4 : vs.getD 18 .none = .str file tf) (h5 : vs.getD 7 .none = .int flags tg) (h6 : vs.getD 9 .none = .bool inF) (h7 : vs.getD 10 .none = .int text tt) (hne : c ≠ P) : CodeK K c P :=
  ⟨⟨_, vs, file, tf, flags, tg, inF, text, tt, l, h1, rfl, h2, h3, h4, h5, h6, h7, hne⟩⟩
theorem mk_makers {q : Program} {K : PySem.W.Frag} {x : Str} {P : Addr} {r : List (Str × Addr)} {d : DefRec} {f c : Addr} {od : Option Addr} {sl : Array (Option Value)} {fd : FuncData} {oc : Value} (h1 : (recsOf q).find? (fun e => e.name == x) = some d)
    (h2 : PySem.W.nsIn K mainGlobals x = some (some (.ref f))) (h3 : K.lookup f = some ⟨oc, od, .func fd, sl⟩) (h4 : fd.code = .ref c) (h5 : CodeK K c P) (h6 : K.lookup P = none) (h7 : Makers q K r) : Makers q K ((x, P) :: r) :=
  ⟨⟨d, f, c, od, sl, fd, oc, h1, h2, h3, h4, h5, h6⟩, h7⟩
def spIsRow (K : PySem.W.Frag) (P : Addr) : Sp := fun vs H Q _ => ∃ x, vs = [x] ∧ ((∃ z : Str, x = .str z ∧ H P = some (.ext (TabP P)) ∧ Q (.bl (rowB z)) H) ∨ (IsI K H x "str" false ∧ Q (.bl false) H))
end L2
set_option Elab.async false
set_option linter.all false
set_option maxRecDepth 100000
namespace L2
open PySem PySem.Spec PyProof.Rows
/-- what an element knows of the def around it -/
structure Out (X : Cx) (σ : St) (H : Hp) (h : Heap) : Prop where
  hok : HOk X.prog X.w H h
  kin : X.K.In h
  cel : ∀ (i : Nat) (y : Str) (v : V), X.N[i]? = some y → σ[i]? = some (some v) → X.env.scope.names.lookup y = some .cell → ∃ u c, RelV v u ∧ X.env.cells.lookup y = some c ∧ h.IsCell c (some u)
theorem Out.kept {X : Cx} {σ : St} {H : Hp} {h h' : Heap} (O : Out X σ H h) (k : ∀ b o, h.get? b = some o → h'.get? b = some o) : Out X σ H h' :=
  ⟨O.hok.kept k, fun b o e => k b o (O.kin b o e), fun i y v h1 h2 h3 => let ⟨u, c, r, e, o, ho, hd⟩ := O.cel i y v h1 h2 h3; ⟨u, c, r, e, o, k _ _ ho, hd⟩⟩
theorem Inv.out {X : Cx} {pins : List (Addr × Obj)} {σ : St} {H : Hp} {s : Shared} {it : Addr} {h' : Heap} (I : Inv X pins σ H s) (f : FpOk X pins H it) (k : ∀ b o, b ≠ it → s.heap.get? b = some o → h'.get? b = some o) : Out X σ H h' := by
  obtain ⟨f0, f1, f2, f3, f4, f5⟩ := f
  have nit : ∀ b u, H b = some u → b ≠ it := fun b u e z => by rw [z, f0] at e; cases e
  refine ⟨fun b u e => (I.hok b u e).stay (fun c v hc q => k c v ?_ q) (fun _ q => q) fun _ _ q => q, fun b o e => k b o (fun z => ?_) (I.kIn b o e), fun i y v h1 h2 h3 => ?_⟩
  · rcases hc with rfl | hc
    · exact nit _ _ e
    · exact nit _ _ hc
  · subst z
    rcases f3 with f3 | f3
    · exact I.ok.noex b o (I.ok.mod.kin b o e) f3
    · have := Heap.lt_size (I.ok.bs b o (I.ok.mod.kin b o e)).1
      exact absurd this (Nat.not_lt.mpr f3)
  · obtain ⟨m, _, hl⟩ := I.loc
    obtain ⟨u, r, l⟩ := hl i y v h1 h2 (.inr (.inl h3))
    rcases l with ⟨hk, _⟩ | ⟨_, c, hc, o, ho, hd⟩
    · have hk' : X.env.scope.names.lookup y = some .local := hk
      rw [h3] at hk'; cases hk'
    · exact ⟨u, c, r, hc, o, k _ _ (f4 y c hc) ho, hd⟩
/-- locals of an element -/
abbrev LV := Str → Option V
abbrev TG2 := LV → St → Hp → (V → Prop) → Prop
/-- an element's rule -/
def GE (X : Cx) (scope : Scope) (cl : List (Str × Addr)) (U : Nat) (e : Expr) (t : TG2) : Prop :=
  ∀ (A' : Around) (E' : Value → Shared → Prop) (C : Addr) (code : Value) (s₂ : Shared) (m₂ : Str → Option Value) (lv : LV) (σ : St) (H : Hp) (R : V → Prop), A'.handled = none → A'.units ≤ U → Out X σ H s₂.heap → s₂.heap.Ns C m₂ → (∀ y v, lv y = some v → ∃ u, RelV v u ∧ m₂ y = some u) → t lv σ H R →
    wpAny (model X.prog X.w) A' (eval e (genEnv scope cl C code builtinsNs X.env)) (fun y s₃ => (∃ v, RelV v y ∧ R v) ∧ Keeps s₂ s₃) E' s₂
def gLoc (x : Str) : TG2 := fun lv _ _ R => ∃ v, lv x = some v ∧ R v
def gFree (i : Nat) : TG2 := fun _ σ _ R => ∃ v, σ[i]? = some (some v) ∧ R v
def gInt (n : Int) : TG2 := fun _ _ _ R => R (.int n)
def gOp (r : V → V → Hp → (V → Prop) → Prop) (a b : TG2) : TG2 := fun lv σ H R => a lv σ H fun x => b lv σ H fun y => r x y H R
section
variable {X : Cx} {scope : Scope} {cl : List (Str × Addr)} {U : Nat} {a b : Expr} {ta tb : TG2}
theorem Keeps_tok (s : Shared) (t : Nat) : Keeps s { s with toks := t } := ⟨s.heap, t, rfl, fun _ _ e => e⟩
theorem ge_int {n : Int} {k : Nat} {pos : Pos} : GE X scope cl U (.Constant (.int n) k pos) (gInt n) := by
  intro A' E' C code s₂ m₂ lv σ H R hA hU O hn hl r
  exact wpAny_Constant_int ⟨⟨.int n, ⟨_, rfl⟩, r⟩, Keeps_tok _ _⟩
def gLtS : V → V → Hp → (V → Prop) → Prop := fun x y _ R => ∃ i j, x = .str i ∧ y = .str j ∧ R (.bl (decide (i.cps.toList < j.cps.toList)))
def gAdd : V → V → Hp → (V → Prop) → Prop := fun x y _ R => ∃ i j, x = .int i ∧ y = .int j ∧ R (.int (i + j))
def gIn : V → V → Hp → (V → Prop) → Prop := fun x y H R => ∃ c : Nat, x = .str (sg c) ∧ ((∃ z, y = .str z ∧ R (.bl (decide (c ∈ z.cps.toList)))) ∨ ∃ d kvs, y = .ref d ∧ Rd H d (.dK kvs) ∧ R (.bl (valV kvs (Sum.inr (sg c))).isSome))
def gIxS : V → V → Hp → (V → Prop) → Prop := fun x y _ R => ∃ z i c, x = .str z ∧ y = .int i ∧ z.length ≤ sizeLine ∧ atI z.cps.toList i = some c ∧ R (.str (sg c))
def gIxL (K : PySem.W.Frag) : V → V → Hp → (V → Prop) → Prop := fun x y H R => ∃ p xs i v, x = .ref p ∧ y = .int i ∧ SqL K H p xs ∧ 0 ≤ i ∧ atI xs i = some v ∧ R v
theorem Out.list {σ : St} {H : Hp} {h : Heap} {l : Addr} {xs : List V} (O : Out X σ H h) (q : SqL X.K H l xs) : ∃ its : List Value, Vals xs its ∧ PlainL h l its.toArray ∧ xs.length ≤ sizeLine := by
  rcases q with q | ⟨o, its, n, hk, hc, hd, hs, hz, r⟩
  · obtain ⟨z, its, n, r, e⟩ := q.ok O.hok
    exact ⟨its, r, ⟨_, n, e, rfl, rfl, rfl⟩, z⟩
  · refine ⟨its.toList, r, ⟨o, n, O.kin l o hk, hc, hd, by simpa using hs⟩, ?_⟩
    have e := r.length
    simp only [Array.length_toList] at e
    omega
end
end L2
set_option Elab.async false
set_option linter.all false
set_option maxRecDepth 100000
namespace L2
open PySem PySem.Spec PyProof.Rows
abbrev TIG := St → Hp → (Nat → (Nat → Option V) → Hp → Prop) → Prop
def PIG (X : Cx) (iter : Expr) (ti : TIG) : Prop :=
  ∀ (pins : List (Addr × Obj)) (s : Shared) (σ : St) (H : Hp) (R : Nat → (Nat → Option V) → Hp → Prop), Inv X pins σ H s → ti σ H R →
    wpAny (model X.prog X.w) X.A (eval iter X.env) (fun xv s1 => wpAny (model X.prog X.w) X.A (pyIter xv) (fun it s2 => ∃ (I : Addr) (fp : List Addr) (n : Nat) (Pv : Nat → Value → Prop) (St₀ : Nat → Heap → Prop) (vi : Nat → Option V) (H1 : Hp),
      it = .ref I ∧ Inv X pins σ H1 s2 ∧ FpOk X pins H1 I ∧ (∀ b ∈ fp, b < s2.heap.objs.size) ∧ (∀ b ∈ fp, ∀ P, H1 b = some (.ext (TabP P)) → False) ∧ (∀ A' : Around, A'.handled = none → Walks X.prog X.w A' I fp [I] n Pv St₀) ∧ St₀ 0 s2.heap ∧ (∀ i u, Pv i u → ∃ y, vi i = some y ∧ RelV y u) ∧ R n vi H1) X.xe s1) X.xe s
abbrev lv1 (x : Str) (v : V) : LV := fun y => if y = x then some v else none
def tAllG (P : Addr) (ti : TIG) (x : Str) (t : TG2) : TE := fun σ H Q => ti σ H fun n vi H1 => H1 P = some (.ext (TabP P)) ∧ ∃ pr : Nat → Bool, (∀ i y, i < n → vi i = some y → t (lv1 x y) σ H1 fun r => r = .bl (pr i)) ∧ Q (.bl ((List.range n).all pr)) H1
section
variable {X : Cx} {elt iter : Expr} {ti : TIG} {t : TG2} {x : Str} {px p gpos pos : Pos} {scope : Scope} {cl : List (Str × Addr)} {c P : Addr} {k : Nat}
end
section
variable {X : Cx} {e : Expr} {te : TE}
def iGStr (te : TE) : TIG := fun σ H R => te σ H fun v H1 => ∃ z : Str, v = .str z ∧ R z.cps.toList.length (fun i => z.cps.toList[i]?.map fun c => V.str (sg c)) H1
def iGRng (ta : TA) : TIG := fun σ H R => ta σ H fun vs H1 => ∃ j : Int, vs = [.int j] ∧ -(2 ^ 62) ≤ j ∧ j < 2 ^ 62 ∧ R j.toNat (fun i => some (.int (i : Int))) H1
end
end L2
set_option Elab.async false
set_option linter.all false
set_option maxRecDepth 100000
namespace L2
open PySem PySem.Spec PyProof.Rows
abbrev TIU := St → Hp → (List (V × V) → Hp → Prop) → Prop
def PIU (X : Cx) (iter : Expr) (ti : TIU) : Prop :=
  ∀ (pins : List (Addr × Obj)) (s : Shared) (σ : St) (H : Hp) (R : List (V × V) → Hp → Prop), Inv X pins σ H s → ti σ H R →
    wpAny (model X.prog X.w) X.A (eval iter X.env) (fun xv s1 => wpAny (model X.prog X.w) X.A (pyIter xv) (fun it s2 => ∃ (I : Addr) (fp : List Addr) (Pt : Nat → Array Value → Prop) (St₀ : Nat → Heap → Prop) (Mid : Nat → Addr → Heap → Prop) (kvs : List (V × V)) (H1 : Hp),
      it = .ref I ∧ Inv X pins σ H1 s2 ∧ FpOk X pins H1 I ∧ (∀ b ∈ fp, b < s2.heap.objs.size) ∧ (∀ b ∈ fp, ∀ P, H1 b = some (.ext (TabP P)) → False) ∧ (∀ A' : Around, A'.handled = none → WalksU X.prog X.w A' I fp [I] kvs.length Pt St₀ Mid) ∧ St₀ 0 s2.heap ∧
        (∀ i vals, Pt i vals → ∃ x y u v, kvs[i]? = some (x, y) ∧ RelV x u ∧ RelV y v ∧ vals = #[u, v]) ∧ R kvs H1) X.xe s1) X.xe s
abbrev lv2 (xa : Str) (x : V) (xb : Str) (y : V) : LV := fun z => if z = xa then some x else if z = xb then some y else none
def tSumG (P : Addr) (ti : TIU) (xa xb : Str) (tt te : TG2) : TE := fun σ H Q => ti σ H fun kvs H1 => H1 P = some (.ext (TabP P)) ∧ ∃ (pz : Nat → Bool) (val : Nat → Int),
  (∀ i x y, kvs[i]? = some (x, y) → (tt (lv2 xa x xb y) σ H1 fun r => r = .bl (pz i)) ∧ (pz i = true → te (lv2 xa x xb y) σ H1 fun r => r = .int (val i))) ∧ Q (.int (((List.range kvs.length).filter pz).map val).sum) H1
section
variable {X : Cx} {elt iter cond : Expr} {ti : TIU} {t tt : TG2} {xa xb : Str} {pa pb pt p gpos pos : Pos} {kt : Nat} {scope : Scope} {cl : List (Str × Addr)} {c P : Addr} {k : Nat}
end
section
variable {X : Cx} {e : Expr} {td : TE} {apos cpos : Pos}
def iGItems (td : TE) : TIU := fun σ H R => td σ H fun x H1 => ∃ d kvs, x = .ref d ∧ H1 d = some (.dK kvs) ∧ R (kvs.map fun kv => (kV kv.1, kv.2)) H1
end
end L2
set_option Elab.async false
set_option linter.all false
set_option maxRecDepth 100000
namespace L2
open PySem PySem.Spec PyProof.Rows
/-- what stands behind the first c -/
def aft (c : Nat) : List Nat → Option (List Nat)
  | [] => none
  | x :: xs => if x = c then some xs else aft c xs
/-- what stands ahead of the last c -/
def bef (c : Nat) : List Nat → Option (List Nat)
  | [] => none
  | x :: xs => match bef c xs with
    | some r => some (x :: r)
    | none => if x = c then some [] else none
theorem aft_len {c : Nat} : ∀ {xs r : List Nat}, aft c xs = some r → r.length < xs.length
  | [], r, h => by cases h
  | x :: xs, r, h => by
    unfold aft at h
    split at h
    · cases h; exact Nat.lt_succ_self _
    · exact Nat.lt_succ_of_lt (aft_len h)
/-- how many of a length -/
def dn : List Nat → Nat → Int
  | _, 0 => 1
  | [], _ + 1 => 0
  | c :: cs, n + 1 => dn cs (n + 1) + dn cs n - (match _h : aft c cs with | none => 0 | some r => dn r n)
termination_by xs n => (xs.length, n)
decreasing_by
  · apply Prod.Lex.left; exact Nat.lt_succ_self _
  · apply Prod.Lex.left; exact Nat.lt_succ_self _
  · apply Prod.Lex.left; exact Nat.lt_succ_of_lt (aft_len _h)
def oI (f : List Nat → Int) (o : Option (List Nat)) : Int := match o with | none => 0 | some r => f r
/-- how many in all -/
def mn : List Nat → Int
  | [] => 1
  | c :: cs => 2 * mn cs - (match _h : aft c cs with | none => 0 | some r => mn r)
termination_by xs => xs.length
decreasing_by
  · exact Nat.lt_succ_self _
  · exact Nat.lt_succ_of_lt (aft_len _h)
def sumTo (f : Nat → Int) : Nat → Int
  | 0 => 0
  | m + 1 => sumTo f m + f m
end L2
set_option Elab.async false
set_option linter.all false
namespace L2
open PySem
/-- in how many ways ys is left of xs -/
def wys : List Nat → List Nat → Nat
  | _, [] => 1
  | [], _ :: _ => 0
  | x :: xs, y :: ys => wys xs (y :: ys) + if x = y then wys xs ys else 0
/-- a list of ints, by a function of the place -/
def tabI (k : Nat) (f : Nat → Int) : List V := (List.range k).map fun i => V.int (f i)
/-- the ways from each place on, of a row's codes -/
def wsuf (xs t : List Nat) : List V := tabI (xs.length + 1) (fun p => (wys (xs.drop p) t : Int))
/-- the ways of each beginning -/
def wpre (xs ys : List Nat) : List V := tabI (ys.length + 1) (fun j => (wys xs (ys.take j) : Int))
end L2
set_option Elab.async false
set_option linter.all false
set_option maxRecDepth 100000
namespace L2
open PySem PySem.Spec PyProof.Rows
/-- xs[i] of a list, by values, 0 ≤ i -/
def gGetL (K : PySem.W.Frag) : V → V → Hp → VK → Prop := fun x y H Q => ∃ p xs i v, x = .ref p ∧ y = .int i ∧ SqL K H p xs ∧ 0 ≤ i ∧ atI xs i = some v ∧ Q v H
end L2
set_option Elab.async false
set_option linter.all false
set_option maxRecDepth 100000
namespace L2
open PySem PySem.Spec PyProof.Rows
def spWith : Sp := fun vs H Q _ => ∃ (z : Str) (c : Nat) (t : List Nat) (p : Addr), vs = [.str z, .str (sg c), .ref p] ∧ z.length ≤ 200 ∧ H p = some (.lst (wsuf z.cps.toList t)) ∧ ∀ (l : Addr) (H' : Hp), Same H H' → H l = none → H' l = some (.lst (wsuf z.cps.toList (c :: t))) → Q (.ref l) H'
def spFrom : Sp := fun vs H Q _ => ∃ z y : Str, vs = [.str z, .str y] ∧ z.length ≤ 200 ∧ y.length ≤ 200 ∧ ∀ (l : Addr) (rs : List Addr) (H' : Hp), Same H H' → H l = none → H' l = some (.lst (rs.map V.ref)) → rs.length = y.cps.toList.length + 1 → (∀ (j : Nat) (r : Addr), rs[j]? = some r → r ≠ l ∧ H' r = some (.lst (wsuf z.cps.toList (y.cps.toList.drop j)))) → Q (.ref l) H'
def spMany : Sp := fun vs H Q _ => ∃ z y : Str, vs = [.str z, .str y] ∧ z.length ≤ 200 ∧ y.length ≤ 200 ∧ ∀ H' : Hp, Same H H' → Q (.int (wys z.cps.toList y.cps.toList : Nat)) H'
def spWaysL : Sp := fun vs H Q _ => ∃ z y : Str, vs = [.str z, .str y] ∧ z.length ≤ 200 ∧ y.length ≤ 200 ∧ ∀ (l : Addr) (rs : List Addr) (H' : Hp), Same H H' → H' l = some (.lst (rs.map V.ref)) → rs.length = z.cps.toList.length + 1 → (∀ (j : Nat) (r : Addr), rs[j]? = some r → H' r = some (.lst (wpre (z.cps.toList.take j) y.cps.toList))) → Q (.ref l) H'
end L2
set_option Elab.async false
set_option linter.all false
set_option maxRecDepth 100000
namespace L2
open PySem PySem.Spec PyProof.Rows
def idx (c : Nat) : List Nat → Option Nat
  | [] => none
  | x :: xs => if x = c then some 0 else (idx c xs).map (· + 1)
theorem idx_lt {c : Nat} : ∀ {xs : List Nat} {j : Nat}, idx c xs = some j → j < xs.length
  | [], j, h => by cases h
  | x :: xs, j, h => by
    have h' : (if x = c then some 0 else (idx c xs).map (· + 1)) = some j := h
    by_cases e : x = c
    · rw [if_pos e] at h'; cases h'; exact Nat.succ_pos _
    · rw [if_neg e] at h'
      obtain ⟨i, hi, rfl⟩ := Option.map_eq_some_iff.mp h'
      exact Nat.succ_lt_succ (idx_lt hi)
/-- the dict of next places from p on -/
def entK : List Nat → Nat → List (Key × V)
  | [], _ => []
  | c :: cs, p => putK (entK cs (p + 1)) (Sum.inr (sg c)) (.int (p : Nat))
theorem sg_inj' {a b : Nat} (h : sg a = sg b) : a = b := by
  have e := congrArg (fun s : Str => s.cps.toList) h
  have e2 : [a] = [b] := e
  cases e2; rfl
def keysU (kvs : List (Key × V)) : Prop := (kvs.map (·.1)).Nodup
def gv (g : Nat → Int) : V → Int
  | .int i => g i.toNat
  | _ => 0
def sumV (g : Nat → Int) (kvs : List (Key × V)) : Int := (kvs.map fun kv => gv g kv.2).sum
structure TabX (H : Hp) (cs : List Nat) (refs : List Addr) : Prop where
  len : refs.length = cs.length + 1
  at_ : ∀ (i : Nat) (r : Addr), refs[i]? = some r → H r = some (.dK (entK (cs.drop i) i))
theorem TabX.same {H H' : Hp} {cs : List Nat} {refs : List Addr} (h : TabX H cs refs) (s : Same H H') : TabX H' cs refs := ⟨h.len, fun i r e => s _ _ (h.at_ i r e)⟩
def spTabX : Sp := fun vs H Q _ => ∃ z : Str, vs = [.str z] ∧ z.length ≤ 200 ∧ ∀ (l : Addr) (refs : List Addr) (H' : Hp), Same H H' → H l = none → H' l = some (.lst (refs.map V.ref)) → TabX H' z.cps.toList refs → Q (.ref l) H'
structure TabXI (H0 H : Hp) (cs : List Nat) (t : Nat) (d l : Addr) (refs : List Addr) : Prop where
  sm : Same H0 H
  nl : H0 l = none
  lst : H l = some (.lst (refs.map V.ref))
  len : refs.length = t + 1
  last : refs[t]? = some d
  at_ : ∀ (j : Nat) (r : Addr), refs[j]? = some r → r ≠ l ∧ H r = some (.dK (entK (cs.drop (cs.length - j)) (cs.length - j)))
def spManyFrom : Sp := fun vs H Q _ => ∃ (l : Addr) (refs : List Addr) (cs : List Nat), vs = [.ref l] ∧ H l = some (.lst (refs.map V.ref)) ∧ TabX H cs refs ∧ cs.length ≤ 200 ∧ ∀ (m : Addr) (H' : Hp), Same H H' → H m = none → H' m = some (.lst (tabI (cs.length + 1) fun i => mn (cs.drop i))) → Q (.ref m) H'
def spManyLeft : Sp := fun vs H Q _ => ∃ z : Str, vs = [.str z] ∧ z.length ≤ 200 ∧ ∀ H' : Hp, Same H H' → Q (.int (mn z.cps.toList)) H'
def dsuf (cs : List Nat) (n : Nat) : List V := tabI (cs.length + 1) fun i => dn (cs.drop i) n
def spOneLonger : Sp := fun vs H Q _ => ∃ (z : Str) (l p : Addr) (refs : List Addr) (n : Nat), vs = [.str z, .ref l, .ref p] ∧ z.length ≤ 200 ∧ H l = some (.lst (refs.map V.ref)) ∧ TabX H z.cps.toList refs ∧ H p = some (.lst (dsuf z.cps.toList n)) ∧
  ∀ (m : Addr) (H' : Hp), Same H H' → H m = none → H' m = some (.lst (dsuf z.cps.toList (n + 1))) → Q (.ref m) H'
def spManyOfL : Sp := fun vs H Q _ => ∃ (z : Str) (l : Addr) (refs : List Addr), vs = [.str z, .ref l] ∧ z.length ≤ 200 ∧ H l = some (.lst (refs.map V.ref)) ∧ TabX H z.cps.toList refs ∧
  ∀ (m : Addr) (rs : List Addr) (H' : Hp), Same H H' → H m = none → H' m = some (.lst (rs.map V.ref)) → rs.length = z.cps.toList.length + 1 → (∀ (n : Nat) (r : Addr), rs[n]? = some r → r ≠ m ∧ H' r = some (.lst (dsuf z.cps.toList n))) → Q (.ref m) H'
def spByLengths : Sp := fun vs H Q _ => ∃ z : Str, vs = [.str z] ∧ z.length ≤ 200 ∧ ∀ (m : Addr) (H' : Hp), Same H H' → H m = none → H' m = some (.lst (tabI (z.cps.toList.length + 1) (dn z.cps.toList))) → Q (.ref m) H'
end L2
set_option Elab.async false
set_option linter.all false
set_option maxRecDepth 100000
namespace L2
open PySem PySem.Spec PyProof.Rows
open Sem (wp)
theorem lk_VE_class : typeLookup (.type "ValueError") "__class__" = pure (some (.builtin "object.__class__")) := by rw [typeLookup_type, builtinLookup_eq_fast]; kernel_rfl
theorem sub_VE_class_owner : isSubtype (.type "ValueError") (.type (".".intercalate ("object.__class__".cutAt '.').dropLast)) = pure true := by
  rw [F.owner_object_class, isSubtype_type]; kernel_rfl
section
variable {prog : Program} {w : World} {A : Around} {E : Value → Shared → Prop} {h : Heap} {g : Array GenState} {d : Drawn} {t : Nat} {os : OsState} {a : Addr} {o : Obj}
theorem class_get_VE {R : Result → Shared → Prop} (at_ : h.get? a = some o) (cl_ : o.cls = .type "ValueError") (wish : R (.ok (.ret (.type "ValueError"))) ⟨h, g, d, t, os⟩) :
    codeAny (model prog w) A (.call (.builtin "getset_descriptor.__get__") ⟨[.builtin "object.__class__", .ref a, .type "ValueError"], []⟩) R ⟨h, g, d, t, os⟩ := by
  have ty_ : (⟨h, g, d, t, os⟩ : Shared).TypeIs (.ref a) "ValueError" := ⟨_, at_, cl_⟩
  have ty5 : (⟨h, g, d, t, os⟩ : Shared).TypeIs (.builtin "object.__class__") "getset_descriptor" := F.typeOf_object_class
  have g8 := sub_VE_class_owner
  refine codeAny_call_builtin F.slot_gs_get.plain F.entry_gs_get (F.slot_gs_get.check _ _ _ _ _ _ _ _ ty5 (F.args_gs_get _ _ _) ?_)
  (repeat (any_goals (first | assumption | wp_step)))
  refine ⟨Code.quiet_builtin _ (by decide +kernel), codeAny_builtin F.entry_object_class ?_⟩
  (repeat (any_goals (first | assumption | wp_step)))
theorem class_entry_VE {tok_ : Tok} {Q : Fin → Shared → Prop} (at_ : h.get? a = some o) (cl_ : o.cls = .type "ValueError") (wish : Q (.done (.ret (.type "ValueError"))) ⟨h, g, d, t, os⟩) :
    wpAny (model prog w) A (Builtin.«object.__getattribute__» ⟨[.ref a, .str "__class__" tok_], []⟩) Q E ⟨h, g, d, t, os⟩ := by
  have ty_ : (⟨h, g, d, t, os⟩ : Shared).TypeIs (.ref a) "ValueError" := ⟨_, at_, cl_⟩
  have ty5 : (⟨h, g, d, t, os⟩ : Shared).TypeIs (.builtin "object.__class__") "getset_descriptor" := F.typeOf_object_class
  have g4 := lk_VE_class
  have g5 := F.typeOf_object_class
  have g6 := F.slot_gs_get.lookup
  have g7 := F.slot_gs_set.lookup
  (repeat (any_goals (first | assumption | wp_step)))
  refine class_get_VE at_ cl_ ?_
  (repeat (any_goals (first | assumption | wp_step)))
theorem class_call_VE {tok_ : Tok} {R : Result → Shared → Prop} (at_ : h.get? a = some o) (cl_ : o.cls = .type "ValueError") (wish : R (.ok (.ret (.type "ValueError"))) ⟨h, g, d, t, os⟩) :
    codeAny (model prog w) A (.call (.builtin "BaseException.__getattribute__") ⟨[.ref a, .str "__class__" tok_], []⟩) R ⟨h, g, d, t, os⟩ :=
  codeAny_call_builtin F.excAttr_ValueError.ga.plain F.entry_bexc_ga (F.excAttr_ValueError.ga.check _ _ _ _ _ _ _ _ (show (⟨h, g, d, t, os⟩ : Shared).TypeIs (.ref a) "ValueError" from ⟨_, at_, cl_⟩) (F.args_bexc_ga _ _) (class_entry_VE at_ cl_ wish))
theorem class_by_VE {tok_ : Tok} {Q : Value → Shared → Prop} (at_ : h.get? a = some o) (cl_ : o.cls = .type "ValueError") (wish : Q (.type "ValueError") ⟨h, g, d, t, os⟩) : wpAny (model prog w) A (getAttrBy (.ref a) (.str "__class__" tok_) false) Q E ⟨h, g, d, t, os⟩ := by
  have ty_ : (⟨h, g, d, t, os⟩ : Shared).TypeIs (.ref a) "ValueError" := ⟨_, at_, cl_⟩
  have g2 := F.excAttr_ValueError.ga.lookup
  have g3 := F.excAttr_ValueError.ga.bind (.ref a)
  (repeat (any_goals (first | assumption | wp_step)))
  refine class_call_VE at_ cl_ ?_
  (repeat (any_goals (first | assumption | wp_step)))
theorem class_attr_VE {Q : Option Value → Shared → Prop} (at_ : h.get? a = some o) (cl_ : o.cls = .type "ValueError") (wish : Q (some (.type "ValueError")) ⟨h, g, d, t + 1, os⟩) : wpAny (model prog w) A (getAttr? (.ref a) "__class__") Q E ⟨h, g, d, t, os⟩ := by
  unfold getAttr? getAttrBy?
  repeat (any_goals (first | assumption | with_reducible apply class_by_VE at_ cl_ | wp_step))
theorem isinstance_nested_false_VE {T : String} {dp_ : Int} {tok_ : Tok} {Q : Fin → Shared → Prop} (at_ : h.get? a = some o) (cl_ : o.cls = .type "ValueError") (nee : (Value.type "ValueError" == Value.type T) = false) (tyT : typeOf (.type T) = pure (.type "type"))
    (subT : isSubtype (.type "ValueError") (.type T) = pure false) (wish : Q (.done (.ret (.bool false))) ⟨h, g, d, t + 1, os⟩) :
    wpAny (model prog w) A (Builtin.«isinstance.nested» ⟨[.ref a, .type T, .int dp_ tok_], []⟩) Q E ⟨h, g, d, t, os⟩ := by
  have ty_ : (⟨h, g, d, t, os⟩ : Shared).TypeIs (.ref a) "ValueError" := ⟨_, at_, cl_⟩
  repeat (any_goals (first | assumption | with_reducible apply class_attr_VE at_ cl_ | wp_step))
end
theorem isi_exc {prog : Program} {w : World} {A : Around} {E : Value → Shared → Prop} {s : Shared} {Q : Value → Shared → Prop} {a : Addr} {o : Obj} (hx : s.heap.get? a = some o) (hc : o.cls = .type "ValueError") (h : ∀ tk, Q (.bool false) { s with toks := tk }) :
    wpAny (model prog w) A (call (.builtin "isinstance") [.ref a, .type "str"]) Q E s := by
  refine call_isinstance (S := fun _ R s => (∃ o, s.heap.get? a = some o ∧ o.cls = .type "ValueError") ∧ R (.ok (.ret (.bool false))) { s with toks := s.toks + 1 }) (fun _ _ _ _ s hs => ?_) ⟨⟨o, hx, hc⟩, h _⟩
  obtain ⟨h, g, d, t, os⟩ := s
  obtain ⟨⟨o, hx, hc⟩, hq⟩ := hs
  exact isinstance_outer (isinstance_nested_false_VE hx hc (by decide +kernel) F.isi_meta_str (by rw [isSubtype_type]; kernel_rfl) hq)
end L2
set_option Elab.async false
set_option linter.all false
set_option maxRecDepth 100000
namespace L2
open PySem PySem.Spec PyProof.Rows
section
variable {X : Cx}
theorem op_isB : OpR X (compareOp .Is) (fun x y H Q => ∃ a b, x = .bl a ∧ y = .bl b ∧ Q (.bl (decide (a = b))) H) := by
  intro pins s σ H x y v u Q I rx ry h
  obtain ⟨a, b, rfl, rfl, q⟩ := h
  cases rx
  cases ry
  have : wpAny (model X.prog X.w) X.A (compareOp .Is (.bool a) (.bool b)) (EP X pins σ Q) X.xe s := by
    refine wpAny_pure (fin_bl I q ?_)
    cases a <;> cases b <;> rfl
  exact this
theorem op_isnotB : OpR X (compareOp .IsNot) (fun x y H Q => ∃ a b, x = .bl a ∧ y = .bl b ∧ Q (.bl (!decide (a = b))) H) := by
  intro pins s σ H x y v u Q I rx ry h
  obtain ⟨a, b, rfl, rfl, q⟩ := h
  cases rx
  cases ry
  have : wpAny (model X.prog X.w) X.A (compareOp .IsNot (.bool a) (.bool b)) (EP X pins σ Q) X.xe s := by
    refine wpAny_pure (fin_bl I q ?_)
    cases a <;> cases b <;> rfl
  exact this
abbrev sgs (cs : List Nat) : List V := cs.map fun c => V.str (sg c)
def ExcP (T : String) (a : Addr) : Heap → Prop := fun h => ∃ o, h.get? a = some o ∧ o.cls = .type T
theorem ExcP.ok {Pg : Program} {w : World} {H : Hp} {h : Heap} {T : String} {a : Addr} (t : ExcP T a h) : ObjOk Pg w H h a (.ext (ExcP T a)) :=
  ⟨t, let ⟨o, e, _⟩ := t; ⟨_, e⟩, fun h1 h2 ⟨o, e, r⟩ k => ⟨o, k _ e, r⟩⟩
theorem ObjOk.ex {P : Program} {w : World} {H : Hp} {h : Heap} {a : Addr} {o : HO} (x : ObjOk P w H h a o) : ∃ u, h.get? a = some u := by
  cases o with
  | lst xs => obtain ⟨_, _, _, _, e⟩ := x; exact ⟨_, e⟩
  | tup xs => obtain ⟨_, _, _, ob, e, _⟩ := x; exact ⟨_, e⟩
  | dK kvs => obtain ⟨_, _, _, _, o, _, _, e, _⟩ := x; exact ⟨_, e⟩
  | dT kvs => obtain ⟨_, _, _, _, o, _, _, e, _⟩ := x; exact ⟨_, e⟩
  | set S n => obtain ⟨o, _, _, _, e, _⟩ := x; exact ⟨_, e⟩
  | ins C dx fs => obtain ⟨_, _, _, e, _⟩ := x; exact ⟨_, e⟩
  | own y => obtain ⟨_, e⟩ := x; exact ⟨_, e⟩
  | xd fs => obtain ⟨_, ⟨_, _, _, e, _⟩, _⟩ := x; exact ⟨_, e⟩
  | rng lo hi => obtain ⟨_, _, _, e⟩ := x; exact ⟨_, e⟩
  | frz ob u => obtain ⟨e, _⟩ := x; exact ⟨_, e⟩
  | tbl ps => exact ⟨_, (show h.get? a = some _ from x)⟩
  | met f y => exact ⟨_, (show h.get? a = some _ from x)⟩
  | ext φ => obtain ⟨_, e, _⟩ := x; exact e
theorem cr_isiE : CallR X (.builtin "isinstance") (fun xs H Q => ∃ a, xs = [.ref a, .ty "str"] ∧ H a = some (.ext (ExcP "ValueError" a)) ∧ Q (.bl false) H) := by
  intro pins s σ H xs us Q I r h
  obtain ⟨a, rfl, ha, q⟩ := h
  obtain ⟨u, w', rfl, r1, r2⟩ := vals2 r
  cases r2
  cases r1
  obtain ⟨⟨o, e1, e2⟩, _⟩ := I.hok a _ ha
  exact isi_exc e1 e2 fun tk => ⟨.bl false, H, I.tok _, rfl, q⟩
end
end L2
set_option Elab.async false
set_option linter.all false
set_option maxRecDepth 100000
namespace L2
open PySem PySem.Spec PyProof.Rows
abbrev kvsOf (ps : List (Str × Int)) : List (Key × V) := ps.map fun p => (Sum.inr p.1, V.int p.2)
abbrev datOf (ps : List (Str × Int)) : List (PyData × PyData) := ps.map fun p => (PyData.str p.1, PyData.int p.2)
def rReprD : List V → Hp → VK → Prop := fun xs H Q => ∃ (a : Addr) (ps : List (Str × Int)), xs = [.ref a] ∧ H a = some (.dK (kvsOf ps)) ∧ (PyData.dict (datOf ps)).showable = true ∧ (PyData.dict (datOf ps)).shown.length ≤ sizeLine ∧ (PyData.dict (datOf ps)).depth ≤ 64 ∧
  Q (.str (PyData.dict (datOf ps)).shown) H
end L2
set_option Elab.async false
set_option linter.all false
set_option maxRecDepth 100000
namespace L2
open PySem
def NewO (H : Hp) (x : V) : Prop := ∀ a, x = .ref a → H a = none
theorem toldO {H : Hp} {o : Option (List Nat)} {Q : VK} (h : ∀ x H', Same H H' → AtO H' o x → NewO H x → Q x H') : ToldO H o Q := by
  cases o with
  | none => exact fun H' sm => h .non H' sm rfl fun a e => nomatch e
  | some ks => exact fun p H' sm n e => h (.ref p) H' sm ⟨p, rfl, e⟩ fun a q => by cases q; exact n
/-- a list of the callee's own, or none -/
def OwnL (H Hx : Hp) (p : Addr) (n : Nat) (x : V) : Prop := x = .non ∨ ∃ a xs, x = .ref a ∧ Hx a = some (.lst xs) ∧ xs.length ≤ n ∧ a ≠ p ∧ H a = none
theorem OwnL.of {H Hx : Hp} {p : Addr} {o : Option (List Nat)} {x : V} (h : AtO Hx o x) (fw : Few o) (n : NewO H x) (hp : ∀ a, x = .ref a → a ≠ p) : OwnL H Hx p 1000 x := by
  cases o with
  | none => exact .inl h
  | some ks => obtain ⟨a, e, q⟩ := h; exact .inr ⟨a, _, e, q, by rw [List.length_map]; exact fw.1, hp a e, n a e⟩
theorem OwnL.upd {H Hx : Hp} {p a : Addr} {n : Nat} {x : V} {ys : List V} (h : OwnL H Hx p n x) (hy : ys.length ≤ n + 1) : OwnL H (upd Hx a (.lst ys)) p (n + 1) x := by
  rcases h with h | ⟨b, xs, e, q, l, ne, hn⟩
  · exact .inl h
  · by_cases z : b = a
    · exact .inr ⟨b, ys, e, by rw [z]; exact upd_same, hy, ne, hn⟩
    · exact .inr ⟨b, xs, e, by rw [upd_ne z]; exact q, by omega, ne, hn⟩
theorem OwnL.mono {H Hx : Hp} {p : Addr} {n m : Nat} {x : V} (h : OwnL H Hx p n x) (k : n ≤ m) : OwnL H Hx p m x := by
  rcases h with h | ⟨b, xs, e, q, l, ne, hn⟩
  · exact .inl h
  · exact .inr ⟨b, xs, e, q, by omega, ne, hn⟩
theorem AtO.ne {H : Hp} {o : Option (List Nat)} {x : V} {p : Addr} (h : AtO H o x) (n : H p = none) : ∀ a, x = .ref a → a ≠ p := fun a e => by
  cases o with
  | none => rw [show x = .non from h] at e; cases e
  | some ks => obtain ⟨b, e2, q⟩ := h; rw [e2] at e; cases e; exact ne_of_none q n
end L2
set_option Elab.async false
set_option linter.all false
set_option maxRecDepth 100000
namespace L2
open PySem PySem.Spec PyProof.Rows
def Asc (z : Str) : Prop := ∀ c ∈ z.cps.toList, c < 128
theorem Asc.app {x y : Str} (h : Asc x) (h' : Asc y) : Asc (x ++ y) := fun c hc => by
  rw [app_cps] at hc
  rcases List.mem_append.mp hc with q | q
  · exact h c q
  · exact h' c q
theorem Asc.cut {x : Str} (h : Asc x) (lo hi : Option Int) : Asc (cutS x lo hi) := fun c hc => by
  rw [cut_cps] at hc
  exact h c (List.mem_of_mem_drop (List.mem_of_mem_take hc))
theorem Asc.mul {x : Str} (h : Asc x) (n : Int) : Asc (mulS x n) := fun c hc => by
  rw [mul_cps] at hc
  obtain ⟨l, hl, hc⟩ := List.mem_flatten.mp hc
  rw [(List.mem_replicate.mp hl).2] at hc
  exact h c hc
def strsD (zs : List Str) : List PyData := zs.map PyData.str
inductive Th (H : Hp) : V → PyData → Prop
  | non : Th H .non .none
  | bl (b : Bool) : Th H (.bl b) (.bool b)
  | int (i : Int) (h : i.natAbs < 1000) : Th H (.int i) (.int i)
  | str (z : Str) (h : Asc z) (l : z.length ≤ 4000) : Th H (.str z) (.str z)
  | lst (a : Addr) (zs : List Str) (e : H a = some (.lst (zs.map V.str))) (h : ∀ z ∈ zs, Asc z ∧ z.length ≤ 4000) (l : (zs.map (·.length)).sum + zs.length ≤ 8000) : Th H (.ref a) (.list (strsD zs))
  | tup (a : Addr) (zs : List Str) (e : H a = some (.tup (zs.map V.str))) (h : ∀ z ∈ zs, Asc z ∧ z.length ≤ 4000) (l : (zs.map (·.length)).sum + zs.length ≤ 8000) : Th H (.ref a) (.tuple (strsD zs))
  | dct (a : Addr) (ps : List (Str × Int)) (e : H a = some (.dK (kvsOf ps))) (h : ∀ p ∈ ps, Asc p.1 ∧ p.1.length ≤ 4000 ∧ p.2.natAbs < 1000) (l : ps.length ≤ 1) : Th H (.ref a) (.dict (datOf ps))
theorem Th.same {H H' : Hp} {x : V} {d : PyData} (t : Th H x d) (s : Same H H') : Th H' x d := by
  cases t with
  | non => exact .non
  | bl b => exact .bl b
  | int i h => exact .int i h
  | str z h l => exact .str z h l
  | lst a zs e h l => exact .lst a zs (s _ _ e) h l
  | tup a zs e h l => exact .tup a zs (s _ _ e) h l
  | dct a ps e h l => exact .dct a ps (s _ _ e) h l
theorem Th.kp {H H' : Hp} {x : V} {d : PyData} {p : Addr} (t : Th H x d) (hp : HandAt H p) (k : Kp p H H') : Th H' x d := by
  obtain ⟨d1, r, hh, _⟩ := hp.ex
  cases t with
  | non => exact .non
  | bl b => exact .bl b
  | int i h => exact .int i h
  | str z h l => exact .str z h l
  | lst a zs e h l =>
    refine .lst a zs (k _ _ e (fun z => ?_)) h l
    subst z
    rw [hh] at e
    have e2 := HO.lst.inj (Option.some.inj e)
    cases zs with
    | nil => cases e2
    | cons z zs => cases e2
  | tup a zs e h l => exact .tup a zs (k _ _ e (ne_of e hh (by intro z; cases z))) h l
  | dct a ps e h l => exact .dct a ps (k _ _ e (ne_of e hh (by intro z; cases z))) h l
theorem asc_short {z : Str} (h : Asc z) : (z.cps.toList.all fun c => decide (c < 16 ^ 8)) = true := by
  rw [List.all_eq_true]
  intro c hc
  have := h c hc
  exact decide_eq_true (by omega)
theorem strs_short : ∀ zs : List Str, (∀ z ∈ zs, Asc z) → PyData.leavesShortAll 13 (strsD zs) = true
  | [], _ => rfl
  | z :: zs, h => by
    show ((z.cps.toList.all fun c => decide (c < 16 ^ 8)) && PyData.leavesShortAll 13 (strsD zs)) = true
    rw [asc_short (h z (List.mem_cons_self ..)), strs_short zs fun y hy => h y (List.mem_cons_of_mem _ hy)]; rfl
theorem strs_show : ∀ zs : List Str, PyData.showableAll (strsD zs) = true
  | [] => rfl
  | z :: zs => by show (true && PyData.showableAll (strsD zs)) = true; rw [strs_show zs]; rfl
theorem strs_nodict : ∀ zs : List Str, PyData.hasDictAll (strsD zs) = false
  | [] => rfl
  | z :: zs => strs_nodict zs
theorem strs_depth : ∀ zs : List Str, PyData.depthAll (strsD zs) = 0
  | [] => rfl
  | z :: zs => by show max (PyData.depth (.str z)) (PyData.depthAll (strsD zs)) = 0; rw [strs_depth zs]; rfl
theorem strs_weight : ∀ zs : List Str, PyData.weightAll (strsD zs) = (zs.map (·.length)).sum + zs.length
  | [] => rfl
  | z :: zs => by
    show z.cps.size + 1 + PyData.weightAll (strsD zs) = _
    rw [strs_weight zs, List.map_cons, List.sum_cons, List.length_cons]
    show z.length + 1 + _ = _
    omega
theorem strs_dp {K : PySem.W.Frag} {H : Hp} : ∀ zs : List Str, DpAll K H (zs.map V.str) (strsD zs)
  | [] => .nil
  | z :: zs => .cons (.str z) (strs_dp zs)
theorem int_shown {i : Int} (h : i.natAbs < 1000) : decide ((PyData.shown (.int i)).length ≤ 13) = true := decide_eq_true (PyData.shown_int_le (Nat.lt_trans h (by decide)))
theorem int_log {i : Int} (h : i.natAbs < 1000) : i.natAbs.log2 < 1920 := by
  by_cases e : i.natAbs = 0
  · rw [e]; decide
  · exact (Nat.log2_lt e).mpr (Nat.lt_of_lt_of_le h (Nat.le_trans (by decide : 1000 ≤ 2 ^ 10) (Nat.pow_le_pow_right (by decide) (by decide))))
/-- a thing's text is told -/
theorem Th.repr {K : PySem.W.Frag} {H : Hp} {x : V} {d : PyData} {Q : VK} (t : Th H x d) (q : Q (.str d.shown) H) : rRepr K [x] H Q ∨ rReprD [x] H Q := by
  cases t with
  | non => exact .inl ⟨_, _, rfl, .non, rfl, rfl, by decide, by decide +kernel, q⟩
  | bl b => exact .inl ⟨_, _, rfl, .bl b, rfl, rfl, by show 0 ≤ 64; decide, by cases b <;> decide +kernel, q⟩
  | int i h => exact .inl ⟨_, _, rfl, .int i, decide_eq_true (int_log h), rfl, by show 0 ≤ 64; decide, Nat.le_trans (PyData.shown_int_le (Nat.lt_trans h (by decide))) (by decide), q⟩
  | str z h l => exact .inl ⟨_, _, rfl, .str z, rfl, rfl, by show 0 ≤ 64; decide, PyData.shown_fits (B := 13) (by decide) (by decide) (asc_short h) (by show z.length ≤ _; omega), q⟩
  | lst a zs e h l =>
    refine .inl ⟨_, _, rfl, .lst (SqL.of e) (strs_dp zs), strs_show zs, strs_nodict zs, ?_, PyData.shown_fits (B := 13) (by decide) (by decide) (strs_short zs fun z hz => (h z hz).1) ?_, q⟩
    · show PyData.depthAll (strsD zs) + 1 ≤ 64
      rw [strs_depth]; decide
    · show PyData.weightAll (strsD zs) ≤ 2 ^ 20
      rw [strs_weight]
      exact Nat.le_trans l (by decide)
  | tup a zs e h l =>
    refine .inl ⟨_, _, rfl, .tup (SqT.of e) (strs_dp zs), strs_show zs, strs_nodict zs, ?_, PyData.shown_fits (B := 13) (by decide) (by decide) (strs_short zs fun z hz => (h z hz).1) ?_, q⟩
    · show PyData.depthAll (strsD zs) + 1 ≤ 64
      rw [strs_depth]; decide
    · show PyData.weightAll (strsD zs) ≤ 2 ^ 20
      rw [strs_weight]
      exact Nat.le_trans l (by decide)
  | dct a ps e h l =>
    refine .inr ⟨a, ps, rfl, e, ?_, PyData.shown_fits (B := 13) (by decide) (by decide) ?_ ?_, ?_, q⟩
    · match ps, l with
      | [], _ => rfl
      | [(z, n)], _ =>
        show (true && decide (n.natAbs.log2 < 1920) && true) = true
        rw [decide_eq_true (int_log (h (z, n) (List.mem_singleton.mpr rfl)).2.2)]; rfl
    · match ps, l with
      | [], _ => rfl
      | [(z, n)], _ =>
        have hz := h (z, n) (List.mem_singleton.mpr rfl)
        show ((z.cps.toList.all fun c => decide (c < 16 ^ 8)) && decide ((PyData.shown (.int n)).length ≤ 13) && true) = true
        rw [asc_short hz.1, int_shown hz.2.2]; rfl
    · match ps, l with
      | [], _ => exact Nat.zero_le _
      | [(z, n)], _ =>
        have hz := h (z, n) (List.mem_singleton.mpr rfl)
        have hlg : n.natAbs.log2 < 1920 := int_log hz.2.2
        have hzl : z.length ≤ 4000 := hz.2.1
        show z.length + (if n == 0 then 0 else n.natAbs.log2 + 1) + 2 + 0 ≤ 2 ^ 20
        split <;> omega
    · match ps, l with
      | [], _ => show 0 + 1 ≤ 64; decide
      | [(z, n)], _ => show max (max 0 0) 0 + 1 ≤ 64; decide
end L2
set_option Elab.async false
set_option linter.all false
set_option maxRecDepth 100000
set_option maxHeartbeats 8000000
namespace L2
open PySem
def spIsRow2 (K : PySem.W.Frag) (P : Addr) : Sp := fun vs H Q _ => ∃ x, vs = [x] ∧ ((∃ z : Str, x = .str z ∧ H P = some (.ext (TabP P)) ∧ Q (.bl (rowB z)) H) ∨ (IsI K H x "str" false ∧ Q (.bl false) H) ∨ ∃ a, x = .ref a ∧ H a = some (.ext (ExcP "ValueError" a)) ∧ Q (.bl false) H)
theorem same_over {H H1 : Hp} (s : Same H H1) {q : Addr} {o : HO} (h : H q = none) : Same H (upd H1 q o) := fun b u e => by
  rw [upd_ne (ne_of_none e h)]; exact s b u e
theorem opt_cons (o : Option (List Nat)) (a : List Nat) (k : Nat) : (o.map (k :: ·)).map (a ++ ·) = o.map ((a ++ [k]) ++ ·) := by cases o <;> simp
theorem opt_nil (a : List Nat) : (some ([] : List Nat)).map (a ++ ·) = some a := by simp
theorem drop_at4 {xs : List Nat} {i x : Nat} (h : xs[i]? = some x) : xs.drop i = x :: xs.drop (i + 1) := by
  obtain ⟨hi, e⟩ := List.getElem?_eq_some_iff.mp h
  rw [List.drop_eq_getElem_cons hi, e]
theorem nInt_snoc (ks : List Nat) (k : Nat) : nInt ks ++ [V.int (k : Nat)] = nInt (ks ++ [k]) := by simp
def spFirst2 : Sp := fun vs H Q _ => ∃ z y : Str, vs = [.str z, .str y] ∧ z.length ≤ 200 ∧ y.length ≤ 4000 ∧ ToldO H (fsts z.cps.toList 0 y.cps.toList) Q
def spIsLeft2 (K : PySem.W.Frag) (P : Addr) : Sp := fun vs H Q _ => ∃ (z : Str) (x : V), vs = [.str z, x] ∧ z.length ≤ 200 ∧
  ((∃ y : Str, x = .str y ∧ y.length ≤ 4000 ∧ H P = some (.ext (TabP P)) ∧ ∀ H', Same H H' → Q (.bl (rowB y && (fsts z.cps.toList 0 y.cps.toList).isSome)) H') ∨ (IsI K H x "str" false ∧ Q (.bl false) H) ∨ ∃ a, x = .ref a ∧ H a = some (.ext (ExcP "ValueError" a)) ∧ Q (.bl false) H)
end L2
set_option Elab.async false
set_option linter.all false
namespace L2
open PySem
/-- a new thing, its heap by a name -/
theorem upS {H J : Hp} {p : Addr} {o : HO} (h : upd H p o = J) (n : H p = none) : Same H J := h ▸ same_new n o
theorem upE {H J : Hp} {p : Addr} {o : HO} (h : upd H p o = J) : J p = some o := h ▸ upd_same
/-- a cut behind a test -/
def tCutT (t : TT) : TT := fun σ H Q => ∃ R : Bool → Hp → Prop, t σ H R ∧ ∀ b H', R b H' → Q b H'
theorem pt_cut {X : Cx} {e : Expr} {t : TT} (h : PT X e t) : PT X e (tCutT t) := by
  intro pins s σ H Q I hq
  obtain ⟨R, h1, h2⟩ := hq
  exact thn (h pins s σ H _ I h1) fun b s' ⟨H', I', q⟩ => ⟨H', I', h2 _ _ q⟩
end L2
set_option Elab.async false
set_option linter.all false
set_option maxRecDepth 100000
namespace L2
open PySem PySem.Spec PyProof.Rows
section
variable {X : Cx} {es : List Expr} {te : TE} {t : TA}
theorem pa_Const {c1 : Const} {c2 : Nat} {c3 : Pos} (ha : PE X (.Constant c1 c2 c3) te) (hr : PA X es t) : PA X ((.Constant c1 c2 c3) :: es) (tCons te t) := pa_cons ha hr rfl
theorem pa_Name {c1 : Str} {c2 : Pos} (ha : PE X (.Name c1 c2) te) (hr : PA X es t) : PA X ((.Name c1 c2) :: es) (tCons te t) := pa_cons ha hr rfl
theorem pa_BinOp {c1 : Expr} {c2 : Operator} {c3 : Expr} {c4 : Pos} (ha : PE X (.BinOp c1 c2 c3 c4) te) (hr : PA X es t) : PA X ((.BinOp c1 c2 c3 c4) :: es) (tCons te t) := pa_cons ha hr rfl
theorem pa_BoolOp {c1 : BoolOp} {c2 : List Expr} {c3 : Pos} (ha : PE X (.BoolOp c1 c2 c3) te) (hr : PA X es t) : PA X ((.BoolOp c1 c2 c3) :: es) (tCons te t) := pa_cons ha hr rfl
theorem pa_Call {c1 : Expr} {c2 : List Expr} {c3 : List Keyword} {c4 : Pos} (ha : PE X (.Call c1 c2 c3 c4) te) (hr : PA X es t) : PA X ((.Call c1 c2 c3 c4) :: es) (tCons te t) := pa_cons ha hr rfl
theorem pa_Subscript {c1 c2 : Expr} {c3 : Pos} (ha : PE X (.Subscript c1 c2 c3) te) (hr : PA X es t) : PA X ((.Subscript c1 c2 c3) :: es) (tCons te t) := pa_cons ha hr rfl
end
end L2
set_option Elab.async false
set_option linter.all false
set_option maxRecDepth 100000
namespace L2
open PySem PySem.Spec PyProof.Rows
structure DrawsAt (H : Hp) (p : Addr) : Prop where
  ex : ∃ ns : List Int, H p = some (.lst (ns.map V.int)) ∧ (∀ n ∈ ns, 0 ≤ n ∧ n < 1000) ∧ ns.length ≤ 240
theorem DrawsAt.kp {H H' : Hp} {p q : Addr} (h : DrawsAt H p) (k : Kp q H H') (n : p ≠ q) : DrawsAt H' p := by
  obtain ⟨ns, e, z⟩ := h.ex
  exact ⟨ns, k _ _ e n, z⟩
theorem DrawsAt.same {H H' : Hp} {p : Addr} (h : DrawsAt H p) (k : Same H H') : DrawsAt H' p := by
  obtain ⟨ns, e, z⟩ := h.ex
  exact ⟨ns, k _ _ e, z⟩
theorem DrawsAt.ne {H : Hp} {p q : Addr} (h : DrawsAt H p) (n : H q = none) : q ≠ p := by
  obtain ⟨ns, e, z⟩ := h.ex
  exact (ne_of_none e n).symm
def spDraws (K : PySem.W.Frag) : Sp := fun vs H Q _ => ∃ (a : Addr) (ns : List Int), vs = [.ref a] ∧ SqL K H a (ns.map V.int) ∧ Scr K H a (ns.map V.int) ∧ ns.length ≤ 63 ∧ ∀ (p : Addr) (H' : Hp), H p = none → DrawsAt H' p → Same H H' → Q (.ref p) H'
def spTake : Sp := fun vs H Q _ => ∃ (p : Addr) (L : Int), vs = [.ref p, .int L] ∧ DrawsAt H p ∧ 0 < L ∧ ∀ (v : Int) (H' : Hp), 0 ≤ v → v < L → DrawsAt H' p → Kp p H H' → Q (.int v) H'
def abcC (k : Int) : Nat := 97 + (k % 26).toNat
def spAbc : Sp := fun vs H Q _ => ∃ k : Int, vs = [.int k] ∧ Q (.str (sg (abcC k))) H
/-- some signs -/
structure SignsAt (H : Hp) (q : Addr) (cs : List Nat) : Prop where
  at_ : H q = some (.lst ((cs.map sg).map V.str))
  ne : cs ≠ []
  le : cs.length ≤ 26
  ok : ∀ c ∈ cs, 97 ≤ c ∧ c ≤ 122
theorem SignsAt.kp {H H' : Hp} {q p : Addr} {cs : List Nat} (h : SignsAt H q cs) (k : Kp p H H') (n : q ≠ p) : SignsAt H' q cs := ⟨k _ _ h.at_ n, h.ne, h.le, h.ok⟩
theorem SignsAt.same {H H' : Hp} {q : Addr} {cs : List Nat} (h : SignsAt H q cs) (k : Same H H') : SignsAt H' q cs := ⟨k _ _ h.at_, h.ne, h.le, h.ok⟩
theorem SignsAt.pos {H : Hp} {q : Addr} {cs : List Nat} (h : SignsAt H q cs) : 0 < cs.length := List.length_pos_iff.mpr h.ne
def spSigns : Sp := fun vs H Q _ => ∃ p, vs = [.ref p] ∧ DrawsAt H p ∧ ∀ (q : Addr) (cs : List Nat) (H' : Hp), SignsAt H' q cs → q ≠ p → H q = none → DrawsAt H' p → Kp p H H' → Q (.ref q) H'
structure GrowAt (C : Addr) (H : Hp) (g : Addr) (z : Str) : Prop where
  ex : ∃ dx, H g = some (.ins C dx [("letters", .str z)])
  row : IsRow z
  le : z.length ≤ 80
theorem GrowAt.same {C : Addr} {H H' : Hp} {g : Addr} {z : Str} (h : GrowAt C H g z) (s : Same H H') : GrowAt C H' g z := let ⟨dx, e⟩ := h.ex; ⟨⟨dx, s _ _ e⟩, h.row, h.le⟩
theorem GrowAt.kp {C : Addr} {H H' : Hp} {g p : Addr} {z : Str} (h : GrowAt C H g z) (k : Kp p H H') (n : g ≠ p) : GrowAt C H' g z := let ⟨dx, e⟩ := h.ex; ⟨⟨dx, k _ _ e n⟩, h.row, h.le⟩
theorem GrowAt.ne {C : Addr} {H : Hp} {g q : Addr} {z : Str} (h : GrowAt C H g z) (n : H q = none) : q ≠ g := by
  obtain ⟨dx, e⟩ := h.ex
  exact (ne_of_none e n).symm
def spGInit (C : Addr) : Sp := fun vs H Q _ => ∃ p dx : Addr, vs = [.ref p] ∧ H p = some (.ins C dx []) ∧ ∀ H', GrowAt C H' p (Str.ofString "") → Kp p H H' → Q .non H'
def spGPut (C P : Addr) : Sp := fun vs H Q _ => ∃ (g : Addr) (z : Str) (c : Nat), vs = [.ref g, .str (sg c)] ∧ GrowAt C H g z ∧ z.length < 80 ∧ (97 ≤ c ∧ c ≤ 122) ∧ H P = some (.ext (TabP P)) ∧ ∀ H', GrowAt C H' g (z ++ sg c) → Kp g H H' → Q .non H'
def undoS (z : Str) : Str := cutS z none (some (-1))
def spGUndo (C : Addr) : Sp := fun vs H Q _ => ∃ (g : Addr) (z : Str), vs = [.ref g] ∧ GrowAt C H g z ∧ (z.length = 0 → Q (.bl false) H) ∧ (0 < z.length → ∀ H', GrowAt C H' g (undoS z) → Kp g H H' → Q (.bl true) H')
def spGRow (C : Addr) : Sp := fun vs H Q _ => ∃ (g : Addr) (z : Str), vs = [.ref g] ∧ GrowAt C H g z ∧ Q (.str z) H
def spGMany (C : Addr) : Sp := fun vs H Q _ => ∃ (g : Addr) (z : Str), vs = [.ref g] ∧ GrowAt C H g z ∧ ∀ H', Same H H' → Q (.int (mn z.cps.toList)) H'
def spGLens (C : Addr) : Sp := fun vs H Q _ => ∃ (g : Addr) (z : Str), vs = [.ref g] ∧ GrowAt C H g z ∧ ∀ (m : Addr) (H' : Hp), Same H H' → H m = none → H' m = some (.lst (tabI (z.cps.toList.length + 1) (dn z.cps.toList))) → Q (.ref m) H'
end L2
set_option Elab.async false
set_option linter.all false
set_option maxRecDepth 100000
namespace L2
open PySem PySem.Spec PyProof.Rows
theorem tabI_ints (n : Nat) (f : Nat → Int) : tabI n f = ((List.range n).map f).map V.int := by rw [tabI, List.map_map]; rfl
/-- the heap but two things -/
def Kp2 (p g : Addr) (H H' : Hp) : Prop := ∀ b o, H b = some o → b ≠ p → b ≠ g → H' b = some o
theorem Kp2.refl (p g : Addr) (H : Hp) : Kp2 p g H H := fun _ _ h _ _ => h
theorem Kp2.trans {p g : Addr} {H H1 H2 : Hp} (a : Kp2 p g H H1) (b : Kp2 p g H1 H2) : Kp2 p g H H2 := fun c o h n m => b c o (a c o h n m) n m
def spLens : Sp := fun vs H Q _ => ∃ z : Str, vs = [.str z] ∧ z.length ≤ 200 ∧ ∀ (m : Addr) (H' : Hp), Same H H' → H m = none → H' m = some (.lst (tabI (z.cps.toList.length + 1) (dn z.cps.toList))) → Q (.ref m) H'
/-- what stands at the end of each letter -/
def BefAt (H : Hp) (d : Addr) (xs : List Nat) : Prop := ∃ kvs : List (Key × V), H d = some (.dK kvs) ∧ kvs.length ≤ xs.length ∧ ∀ c : Nat, (bef c xs = none → valV kvs (Sum.inr (sg c)) = none) ∧
  ∀ r, bef c xs = some r → ∃ q, valV kvs (Sum.inr (sg c)) = some (.ref q) ∧ q ≠ d ∧ H q = some (.lst (tabI (r.length + 1) (dn r)))
def spDeed (C P : Addr) : Sp := fun vs H Q _ => ∃ (p g q : Addr) (z : Str) (cs : List Nat), vs = [.ref p, .ref g, .str z, .ref q] ∧ DrawsAt H p ∧ GrowAt C H g z ∧ SignsAt H q cs ∧ q ≠ p ∧ H P = some (.ext (TabP P)) ∧
  ∀ (z' : Str) (H' : Hp), DrawsAt H' p → GrowAt C H' g z' → Kp2 p g H H' → Q (.str z') H'
def spBack (C : Addr) : Sp := fun vs H Q _ => ∃ (g : Addr) (z : Str), vs = [.ref g, .str z] ∧ GrowAt C H g z ∧ 0 < z.length ∧ ∀ H', GrowAt C H' g (undoS z) → Kp g H H' → Q (.bl true) H'
def spLong (P : Addr) : Sp := fun vs H Q _ => ∃ p : Addr, vs = [.ref p] ∧ DrawsAt H p ∧ H P = some (.ext (TabP P)) ∧ ∀ H', DrawsAt H' p → Kp p H H' → Q (.bl true) H'
end L2
set_option Elab.async false
set_option linter.all false
set_option maxRecDepth 100000
namespace L2
open PySem PySem.Spec PyProof.Rows
open Builtin Builtin.Str in
theorem occ_nxt (z : Str) (c : Nat) {i : Int} (h0 : 0 ≤ i) {k : Nat} (h : nxt z.cps.toList i.toNat (sg c) = some k) : ∃ rest, occurrences z (sg c) (fromIndex z.length i) z.length 1 = k :: rest := by
  have e := find3_nxt z c h0
  rw [h] at e
  have e' : (match occurrences z (sg c) (fromIndex z.length i) z.length 1 with | k :: _ => (k : Int) | [] => -1) = (k : Int) := e
  cases ho : occurrences z (sg c) (fromIndex z.length i) z.length 1 with
  | nil => rw [ho] at e'; exact absurd e' (by simp only []; omega)
  | cons j rest =>
    rw [ho] at e'
    have : (j : Int) = (k : Int) := e'
    have : j = k := by omega
    subst this
    exact ⟨rest, rfl⟩
section
variable {X : Cx}
def rIndexS : V → List V → Hp → VK → Prop := fun x xs H Q => ∃ (z : Str) (c k : Nat), x = .str z ∧ xs = [.str (sg c)] ∧ nxt z.cps.toList 0 (sg c) = some k ∧ Q (.int (k : Nat)) H
theorem mt_indexS : MtR X "str.index" rIndexS := by
  intro pins s σ H x xs v us Q I rx rs h
  obtain ⟨z, c, k, rfl, rfl, h0, q⟩ := h
  obtain ⟨t, rfl⟩ := rx
  cases rs with
  | cons r1 rs =>
    cases rs
    obtain ⟨u, rfl⟩ := r1
    obtain ⟨rest, ho⟩ := occ_nxt z c (i := 0) (Int.le_refl 0) (by rw [Int.toNat_zero]; exact h0)
    have e0 : fromIndex z.length 0 = 0 := by unfold fromIndex; rw [if_neg (by omega)]; omega
    rw [e0] at ho
    exact SC.index ho ⟨.int _, H, I.tok _, ⟨_, rfl⟩, q⟩
end
def pickS (z : Str) (lo : Option Int) (k : Int) : Str := ⟨((Builtin.Str.strSliceIndices lo none k z.length).filterMap (z.cps[·]?)).toArray⟩
def tStepS (te : TE) : TE := fun σ H Q => te σ H fun x H1 => ∃ z, x = .str z ∧ z.length ≤ sizeLine ∧ ∀ w : Str, (∀ c ∈ w.cps.toList, c ∈ z.cps.toList) → w.length ≤ z.length → Q (.str w) H1
section
variable {X : Cx} {e : Expr} {te : TE}
end
end L2
set_option Elab.async false
set_option linter.all false
set_option maxRecDepth 100000
namespace L2
open PySem PySem.Spec PyProof.Rows
def spRowC : Sp := fun vs H Q _ => ∃ (p q : Addr) (m : Int) (cs : List Nat), vs = [.ref p, .ref q, .int m] ∧ DrawsAt H p ∧ SignsAt H q cs ∧ q ≠ p ∧ 0 ≤ m ∧ m ≤ 80 ∧ ∀ (x : Str) (H' : Hp), IsRow x → x.length ≤ 80 → (x.length : Int) ≤ m → DrawsAt H' p → Kp p H H' → Q (.str x) H'
def hasB (z y : Str) : Bool := rowB y && (fsts z.cps.toList 0 y.cps.toList).isSome
def spHas (K : PySem.W.Frag) (C P : Addr) : Sp := fun vs H Q E => ∃ (g : Addr) (z : Str) (x : V), vs = [.ref g, x] ∧ GrowAt C H g z ∧ spIsLeft2 K P [.str z, x] H Q E
def spGrown (C P : Addr) : Sp := fun vs H Q _ => ∃ z : Str, vs = [.str z] ∧ IsRow z ∧ z.length ≤ 80 ∧ H P = some (.ext (TabP P)) ∧ ∀ (g : Addr) (H' : Hp), H g = none → GrowAt C H' g z → Same H H' → Q (.ref g) H'
def AnsAt (H : Hp) (m q : Addr) (z w : Str) : Prop := H m = some (.lst [.bl (hasB z w), .ref q, .int (mn z.cps.toList), .str z, .bl (hasB z z)]) ∧ H q = some (.lst (tabI (z.cps.toList.length + 1) (dn z.cps.toList)))
def ansD (z w : Str) : PyData := .list [.bool (hasB z w), .list (((List.range (z.cps.toList.length + 1)).map (dn z.cps.toList)).map PyData.int), .int (mn z.cps.toList), .str z, .bool (hasB z z)]
theorem AnsAt.dp {K : PySem.W.Frag} {H : Hp} {m q : Addr} {z w : Str} (h : AnsAt H m q z w) : Dp K H (.ref m) (ansD z w) := by
  obtain ⟨h1, h2⟩ := h
  rw [tabI_ints] at h2
  exact .lst (SqL.of h1) (.cons (.bl _) (.cons (Dp.ints (SqL.of h2)) (.cons (.int _) (.cons (.str _) (.cons (.bl _) .nil)))))
theorem AnsAt.same {H H' : Hp} {m q : Addr} {z w : Str} (h : AnsAt H m q z w) (s : Same H H') : AnsAt H' m q z w := ⟨s _ _ h.1, s _ _ h.2⟩
def spAns (C P : Addr) : Sp := fun vs H Q _ => ∃ (g : Addr) (z w : Str), vs = [.ref g, .str w] ∧ GrowAt C H g z ∧ w.length ≤ 80 ∧ H P = some (.ext (TabP P)) ∧ ∀ (m q : Addr) (H' : Hp), Same H H' → H m = none → H q = none → AnsAt H' m q z w → Q (.ref m) H'
def spTab2 (C P : Addr) : Sp := fun vs H Q _ => ∃ (p g : Addr) (z w : Str), vs = [.ref p, .ref g, .str z, .str w] ∧ DrawsAt H p ∧ GrowAt C H g z ∧ w.length ≤ 80 ∧ H P = some (.ext (TabP P)) ∧ ∀ H', DrawsAt H' p → GrowAt C H' g z → Kp2 p g H H' → Q (.bl true) H'
def spOtherw (P : Addr) : Sp := fun vs H Q _ => ∃ (p : Addr) (z : Str), vs = [.ref p, .str z] ∧ DrawsAt H p ∧ IsRow z ∧ z.length ≤ 80 ∧ H P = some (.ext (TabP P)) ∧ ∀ H', DrawsAt H' p → Kp p H H' → Q (.bl true) H'
theorem app_cons (z : List Nat) (t c : Nat) (h : z[t]? = some c) : z.take (t + 1) = z.take t ++ [c] := by rw [List.take_add_one, h]; rfl
def takeS (z : Str) (t : Nat) : Str := ⟨(z.cps.toList.take t).toArray⟩
end L2
set_option Elab.async false
set_option linter.all false
set_option maxRecDepth 100000
namespace L2
open PySem PySem.Spec PyProof.Rows
def ThingL (K : PySem.W.Frag) (H : Hp) (v : V) : Prop := (∃ y : Str, v = .str y ∧ y.length ≤ 400) ∨ ∀ H', Same H H' → IsI K H' v "str" false
theorem ThingL.same {K : PySem.W.Frag} {H H' : Hp} {v : V} (h : ThingL K H v) (s : Same H H') : ThingL K H' v := h.imp id fun q H2 s2 => q H2 (s.trans s2)
def spIsLeftL : Sp := fun vs H Q _ => ∃ z y : Str, vs = [.str z, .str y] ∧ z.length ≤ 200 ∧ y.length ≤ 4000 ∧ Q (.bl (fsts z.cps.toList 0 y.cps.toList).isSome) H
def spWhole1 : Sp := fun vs H Q _ => ∃ n : Int, vs = [.int n] ∧ Q (.bl true) H
def spHasL (K : PySem.W.Frag) : Sp := fun vs H Q _ => ∃ (z : Str) (x : V), vs = [.str z, x] ∧ z.length ≤ 200 ∧ ((∃ y : Str, x = .str y ∧ y.length ≤ 4000 ∧ ∀ H', Same H H' → Q (.bl (hasB z y)) H') ∨ (IsI K H x "str" false ∧ Q (.bl false) H))
def spAsked (K : PySem.W.Frag) : Sp := fun vs H Q _ => ∃ (p q0 : Addr) (z : Str) (cs : List Nat), vs = [.ref p, .str z, .ref q0] ∧ DrawsAt H p ∧ SignsAt H q0 cs ∧ q0 ≠ p ∧ IsRow z ∧ z.length ≤ 80 ∧ ∀ (v : V) (H' : Hp), ThingL K H' v → DrawsAt H' p → Kp p H H' → Q v H'
structure HeldL (H : Hp) (h : Addr) (X : List Addr) (n : Nat) : Prop where
  ne : h ∉ X
  ex : ∃ ts : List Addr, H h = some (.lst (ts.map V.ref)) ∧ ts.length ≤ n ∧ ∀ t ∈ ts, t ≠ h ∧ t ∉ X ∧ ∃ (a b : Addr) (ns : List Int), H t = some (.tup [.ref a, .ref b]) ∧ a ≠ h ∧ a ∉ X ∧ b ≠ h ∧ b ∉ X ∧ H a = some (.lst (ns.map V.int)) ∧ H b = some (.lst (ns.map V.int))
theorem HeldL.keep {H H' : Hp} {h : Addr} {X : List Addr} {n : Nat} (x : HeldL H h X n) (up : ∀ (b : Addr) (o : HO), H b = some o → b ∉ X → (∀ C dx fs, o ≠ .ins C dx fs) → H' b = some o) : HeldL H' h X n := by
  obtain ⟨ts, e, l, r⟩ := x.ex
  refine ⟨x.ne, ts, up _ _ e x.ne (fun _ _ _ z => nomatch z), l, fun t ht => ?_⟩
  obtain ⟨n1, n2, a, b, ns, e1, n3, n4, n5, n6, e2, e3⟩ := r t ht
  exact ⟨n1, n2, a, b, ns, up _ _ e1 n2 (fun _ _ _ z => nomatch z), n3, n4, n5, n6, up _ _ e2 n4 (fun _ _ _ z => nomatch z), up _ _ e3 n6 (fun _ _ _ z => nomatch z)⟩
theorem HeldL.kp {H H' : Hp} {h p : Addr} {X : List Addr} {n : Nat} (x : HeldL H h X n) (hp : p ∈ X) (k : Kp p H H') : HeldL H' h X n := x.keep fun b o e nX _ => k b o e fun z => nX (z ▸ hp)
theorem HeldL.same {H H' : Hp} {h : Addr} {X : List Addr} {n : Nat} (x : HeldL H h X n) (k : Same H H') : HeldL H' h X n := x.keep fun b o e _ _ => k b o e
theorem HeldL.mono {H : Hp} {h : Addr} {X : List Addr} {n m : Nat} (x : HeldL H h X n) (l : n ≤ m) : HeldL H h X m := let ⟨ts, e, l', r⟩ := x.ex; ⟨x.ne, ts, e, Nat.le_trans l' l, r⟩
theorem HeldL.more {H : Hp} {h l : Addr} {X : List Addr} {n : Nat} (x : HeldL H h X n) (e : H l = none) : HeldL H h (l :: X) n := by
  obtain ⟨ts, e0, l', r⟩ := x.ex
  have nn : ∀ {b : Addr} {o : HO}, H b = some o → b ∉ X → b ∉ l :: X := fun eb nb z => by
    rcases List.mem_cons.mp z with z | z
    · rw [z, e] at eb; cases eb
    · exact nb z
  refine ⟨nn e0 x.ne, ts, e0, l', fun t ht => ?_⟩
  obtain ⟨n1, n2, a, b, ns, e1, n3, n4, n5, n6, e2, e3⟩ := r t ht
  exact ⟨n1, nn e1 n2, a, b, ns, e1, n3, nn e2 n4, n5, nn e3 n6, e2, e3⟩
theorem HeldL.push {H : Hp} {h t a b : Addr} {X : List Addr} {n : Nat} {ns : List Int} (x : HeldL H h X n) (et : H t = some (.tup [.ref a, .ref b])) (ea : H a = some (.lst (ns.map V.int))) (eb : H b = some (.lst (ns.map V.int))) (n1 : t ≠ h) (n2 : t ∉ X) (n3 : a ≠ h) (n4 : a ∉ X) (n5 : b ≠ h) (n6 : b ∉ X) :
    ∃ acc, H h = some (.lst acc) ∧ acc.length ≤ n ∧ HeldL (upd H h (.lst (acc ++ [.ref t]))) h X (n + 1) := by
  obtain ⟨ts, e, l, r⟩ := x.ex
  refine ⟨_, e, by rw [List.length_map]; exact l, x.ne, ts ++ [t], by rw [upd_same, List.map_append]; rfl, by rw [List.length_append]; exact Nat.succ_le_succ l, fun u hu => ?_⟩
  rcases List.mem_append.mp hu with hu | hu
  · obtain ⟨m1, m2, a, b, ns, e1, m3, m4, m5, m6, e2, e3⟩ := r u hu
    exact ⟨m1, m2, a, b, ns, by rw [upd_ne m1]; exact e1, m3, m4, m5, m6, by rw [upd_ne m3]; exact e2, by rw [upd_ne m5]; exact e3⟩
  · rw [List.mem_singleton.mp hu]
    exact ⟨n1, n2, a, b, ns, by rw [upd_ne n1]; exact et, n3, n4, n5, n6, by rw [upd_ne n3]; exact ea, by rw [upd_ne n5]; exact eb⟩
/-- all of these stand -/
def Stand (H : Hp) (X : List Addr) : Prop := ∀ x ∈ X, ∃ o, H x = some o
theorem Stand.out {H : Hp} {X : List Addr} (s : Stand H X) {q : Addr} (e : H q = none) : q ∉ X := fun z => by
  obtain ⟨o, h⟩ := s q z
  rw [e] at h; cases h
def spDoor (C P : Addr) : Sp := fun vs H Q _ => ∃ (p g q0 h : Addr) (X : List Addr) (z : Str) (way : Int) (cs : List Nat) (n : Nat), vs = [.ref p, .ref g, .str z, .int way, .ref q0, .ref h] ∧ DrawsAt H p ∧ GrowAt C H g z ∧ SignsAt H q0 cs ∧ q0 ≠ p ∧ p ∈ X ∧ Stand H X ∧ HeldL H h X n ∧ n ≤ 500 ∧ H P = some (.ext (TabP P)) ∧ 0 ≤ way ∧ way ≤ 3 ∧
  ∀ H', DrawsAt H' p → HeldL H' h X (n + 1) → Kp2 p h H H' → Q (.bl true) H'
def spStands (C P : Addr) : Sp := fun vs H Q _ => ∃ (p g q0 h : Addr) (z : Str) (cs : List Nat) (n : Nat), vs = [.ref p, .ref g, .str z, .ref q0, .ref h] ∧ DrawsAt H p ∧ GrowAt C H g z ∧ SignsAt H q0 cs ∧ q0 ≠ p ∧ q0 ≠ h ∧ HeldL H h [p] n ∧ n ≤ 490 ∧ H P = some (.ext (TabP P)) ∧
  ∀ H', DrawsAt H' p → HeldL H' h [p] (n + 4) → Kp2 p h H H' → Q (.bl true) H'
def spHeldStay : Sp := fun vs H Q _ => ∃ (h : Addr) (X : List Addr) (n : Nat), vs = [.ref h] ∧ HeldL H h X n ∧ n ≤ 500 ∧ ∀ H', Same H H' → Q (.bl true) H'
end L2
set_option Elab.async false
set_option linter.all false
set_option maxRecDepth 100000
set_option maxHeartbeats 1000000
namespace L2
open PySem PySem.Spec PyProof.Rows
theorem lay_led (t : SetTable) (es : Array (Int × Value)) (h : Int) (x : Value) : (layNew t es h x).2.1.led = t.led := by
  unfold layNew
  split
  · show (SetTable.orStandIn _ _).led = t.led
    unfold SetTable.orStandIn
    split <;> rfl
  · rfl
theorem relay_led (t : SetTable) (es : Array (Int × Value)) (n : Nat) : (relayAll t es n).2.1.led = t.led := by
  unfold relayAll
  split
  · rename_i t' order e
    have e2 : t'.led = t.led := by
      unfold SetTable.relaid SetTable.laid at e
      simp only [Option.bind_eq_bind] at e
      obtain ⟨ow, _, e⟩ := Option.bind_eq_some_iff.mp e
      cases e; rfl
    dsimp only
    split
    · exact e2
    · rfl
  · rfl
theorem relay_plain (t : SetTable) (es : Array (Int × Value)) (n : Nat) (h : t.plain = false) : (relayAll t es n).2.1.plain = false := by
  unfold relayAll
  split
  · rename_i t' order e
    have e2 : t'.plain = t.plain := by
      unfold SetTable.relaid SetTable.laid at e
      simp only [Option.bind_eq_bind] at e
      obtain ⟨ow, _, e⟩ := Option.bind_eq_some_iff.mp e
      cases e; rfl
    dsimp only
    split
    · rw [e2]; exact h
    · rfl
  · rfl
section
variable {prog : Program} {w : World} {A : Around} {E : Value → Shared → Prop} {s : Shared}
structure SR (prog : Program) (w : World) (h : Heap) (a : Addr) (es : List (Int × Value)) (led : Bool) : Prop where
  ex : ∃ (o : Obj) (ea : Array (Int × Value)) (ep : Nat) (t : SetTable), h.get? a = some o ∧ o.ExactSet ∧ o.data = .set ea ep t ∧ ea.toList = es ∧ t.fits ea.size = true ∧ t.led = led ∧ (ea.size = 0 ∨ t.plain = false)
  el : ElemsOf (PySem.strKind prog w) es
  bd : es.length < 4000
theorem SR.at {h h' : Heap} {a : Addr} {es : List (Int × Value)} {led : Bool} (x : SR prog w h a es led) (k : ∀ o, h.get? a = some o → h'.get? a = some o) : SR prog w h' a es led := by
  obtain ⟨o, ea, ep, t, h1, r⟩ := x.ex
  exact ⟨⟨o, ea, ep, t, k _ h1, r⟩, x.el, x.bd⟩
theorem add_tail {g : Bool → Sem Unit} (hg : ∀ (b : Bool) (s₁ : Shared) (Q' : Unit → Shared → Prop), Q' () s₁ → wpAny (model prog w) A (g b) Q' E s₁)
    {a : Addr} {o : Obj} {es : Array (Int × Value)} {ep : Nat} {t : SetTable} (ho : s.heap.get? a = some o) (hex : o.ExactSet) (hd : o.data = .set es ep t)
    {es1 : Array (Int × Value)} {t2 : SetTable} (hel1 : ElemsOf (PySem.strKind prog w) es1.toList) (hb1 : es1.size < 4000) (hf2 : t2.fits es1.size = true) (hp2 : t2.plain = false) {led : Bool} (hled : t2.led = led) {wasDummy : Bool} {R : Option Bool → Shared → Prop}
    (h : ∀ h' es', Heap.SameBut a s.heap h' → SR prog w h' a es' led → es'.Perm es1.toList → R (some true) { s with heap := h' }) :
    wpAny (model prog w) A (do
        storeSet a es1 t2
        if (!wasDummy && t2.tooFull) = true then do
            g (relayAll t2 es1 (SetTable.grown es1.size)).2.2
            storeSet a (relayAll t2 es1 (SetTable.grown es1.size)).1 (relayAll t2 es1 (SetTable.grown es1.size)).2.1
            pure (some true)
          else pure (some true)) R E s := by
  have big : ∀ {n : Nat}, n < 4000 → n ≤ sizeLine := fun hn => Nat.le_trans (Nat.le_of_lt hn) (by decide)
  have got : ∀ {h : Heap} {o : Obj} {es : Array (Int × Value)} {ep : Nat} {t : SetTable} (es' : Array (Int × Value)) (t' : SetTable), h.get? a = some o → o.data = .set es ep t → (h.update a (Obj.putSet es' t')).get? a = some { o with data := .set es' (ep + 1) t' } := by
    intro h o es ep t es' t' ho hd
    have := Heap.get?_update_self (Obj.putSet es' t') ho (by rw [putSet_of es' t' hd]; rfl)
    rw [putSet_of es' t' hd] at this; exact this
  refine wpAny_bind (wpAny_storeSet_of ho hd ?_ (big hb1))
  have ho1 := got es1 t2 ho hd
  have hsb1 := Heap.SameBut.update s.heap a (Obj.putSet es1 t2)
  split
  · have hp := relayAll_perm t2 es1 (SetTable.grown es1.size)
    have hfr := relayAll_fits t2 es1 (SetTable.grown es1.size)
    have hld := relay_led t2 es1 (SetTable.grown es1.size)
    have hpl := relay_plain t2 es1 (SetTable.grown es1.size) hp2
    generalize hRl : relayAll t2 es1 (SetTable.grown es1.size) = Rl at hp hfr hld hpl ⊢
    obtain ⟨es2, t3, gave2⟩ := Rl
    dsimp only at hp hfr hld hpl ⊢
    have hsz : es2.size = es1.size := by rw [← Array.length_toList, hp.length_eq, Array.length_toList]
    have hb2 : es2.size < 4000 := by rw [hsz]; exact hb1
    refine wpAny_bind (hg _ _ _ ?_)
    refine wpAny_bind (wpAny_storeSet_of ho1 rfl ?_ (big hb2))
    have ho2 := got es2 t3 ho1 rfl
    exact wpAny_pure (h _ es2.toList (hsb1.trans (Heap.SameBut.update _ a _)) ⟨⟨_, es2, _, t3, ho2, hex, rfl, rfl, hfr, hld.trans hled, .inr hpl⟩, hel1.perm hp, by rw [Array.length_toList]; exact hb2⟩ hp)
  · exact wpAny_pure (h _ es1.toList hsb1 ⟨⟨_, es1, _, t2, ho1, hex, rfl, rfl, hf2, hled, .inr hp2⟩, hel1, by rw [Array.length_toList]; exact hb1⟩ .rfl)
theorem add_str {a : Addr} {es : List (Int × Value)} {led : Bool} {x : Str} {t₀ : Tok} {Q : Bool → Shared → Prop} (S : SR prog w s.heap a es led) (hb : es.length + 1 < 4000)
    (hF : (∃ e ∈ es, (PySem.strKind prog w).is x e.2 = true) → Q false s)
    (hA : (∀ e ∈ es, (PySem.strKind prog w).is x e.2 = false) → ∀ h' es', Heap.SameBut a s.heap h' → SR prog w h' a es' led → es'.Perm (es ++ [((PySem.strKind prog w).hash x, .str x t₀)]) → Q true { s with heap := h' }) :
    wpAny (model prog w) A (setAddHashed a (.str x t₀) ((PySem.strKind prog w).hash x)) Q E s := by
  obtain ⟨⟨o, ea, ep, t, ho, hex, hd, he, hf, hl, hpl⟩, hel, _⟩ := S
  subst he
  have hkey : (PySem.strKind prog w).is x (.str x t₀) = true := strKind_is prog w x t₀
  have hsc : (Value.str x t₀).scannable = true := rfl
  have hbs : ea.size < scanBound := by
    rw [Array.length_toList] at hb
    exact Nat.lt_trans (by omega) (by decide : 4000 < scanBound)
  unfold setAddHashed setAddHashedIn
  refine wpAny_holding (wpAny_bind (wpAny_setState_of ho hd hf ?_))
  dsimp only
  rw [byScan_of hsc hbs hel]
  simp only [↓reduceIte]
  unfold setAddByScan
  refine wpAny_bind ?_
  refine wpAny_bind (wpAny_rule ?_)
  refine wpAny_bind (wpAny_setScan_of hkey ho hd hf hel ?_)
  cases hr : List.findIdx? (fun e => (PySem.strKind prog w).is x e.2) ea.toList with
  | some j =>
    dsimp only
    obtain ⟨hj, hpj, _⟩ := List.findIdx?_eq_some_iff_getElem.mp hr
    exact wpAny_pure (wpAny_pure (hF ⟨ea.toList[j], List.getElem_mem hj, hpj⟩))
  | none =>
    dsimp only
    have hno := List.findIdx?_eq_none_iff.mp hr
    have hgw : ∀ (b : Bool) {s₁ : Shared} {Q' : Unit → Shared → Prop}, Q' () s₁ → wpAny (model prog w) A (match b with | true => rule "set.scan.the-table-gave-way" | false => pure ()) Q' E s₁ :=
      fun b s₁ Q' hq => by cases b <;> first | exact wpAny_pure hq | exact wpAny_rule hq
    have hperm := layNew_perm t ea ((PySem.strKind prog w).hash x) (.str x t₀)
    have hfits := layNew_fits t ea ((PySem.strKind prog w).hash x) (.str x t₀)
    have hled := lay_led t ea ((PySem.strKind prog w).hash x) (.str x t₀)
    generalize hL : layNew t ea ((PySem.strKind prog w).hash x) (.str x t₀) = L at hperm hfits hled ⊢
    obtain ⟨es1, t1, wasDummy, gave⟩ := L
    dsimp only at hperm hfits hled ⊢
    rw [Array.toList_push] at hperm
    have hel1 : ElemsOf (PySem.strKind prog w) es1.toList := (hel.push hkey hsc).perm hperm
    have hb1' : es1.size < 4000 := by rw [← Array.length_toList, hperm.length_eq, List.length_append]; exact hb
    refine wpAny_bind (hgw _ ?_)
    have hend : ∀ h' es', Heap.SameBut a s.heap h' → SR prog w h' a es' led → es'.Perm es1.toList → Q true { s with heap := h' } := fun h' es' h1 h2 h3 => hA (fun e he => by simpa using hno e he) h' es' h1 h2 (h3.trans hperm)
    split
    · refine wpAny_bind ?_
      rw [hashByValue_scannable 8 hsc]
      refine wpAny_pure ?_
      refine add_tail ?_ ho hex hd hel1 hb1' (t2 := { t1 with plain := false }) (SetTable.fits_plain_off hfits) rfl (hled.trans hl) ?_
      · intro b s₁ Q' hq; cases b <;> first | exact wpAny_pure hq | exact wpAny_rule hq
      · intro h' es' hsb hS' hp'; dsimp only; exact wpAny_pure (hend h' es' hsb hS' hp')
    · rename_i hnp
      refine wpAny_bind (wpAny_pure ?_)
      simp only [↓reduceIte]
      refine add_tail ?_ ho hex hd hel1 hb1' hfits (by simpa using hnp) (hled.trans hl) ?_
      · intro b s₁ Q' hq; cases b <;> first | exact wpAny_pure hq | exact wpAny_rule hq
      · intro h' es' hsb hS' hp'; dsimp only; exact wpAny_pure (hend h' es' hsb hS' hp')
end
end L2
set_option Elab.async false
set_option linter.all false
set_option maxRecDepth 100000
set_option maxHeartbeats 3200000
namespace L2
open PySem PySem.Spec PyProof.Rows
def codeV : Value → Nat
  | .str x _ => x.cps.getD 0 0
  | _ => 0
/-- the set at S holds the signs of cs -/
structure SC (prog : Program) (w : World) (h : Heap) (S : Addr) (led : Bool) (cs : List Nat) : Prop where
  ex : ∃ es : List (Int × Value), SR prog w h S es led ∧ (∀ e ∈ es, ∃ c t, e.2 = .str (sg c) t) ∧ (es.map (fun e => codeV e.2)).Nodup ∧ ∀ c, c ∈ es.map (fun e => codeV e.2) ↔ c ∈ cs
section
variable {prog : Program} {w : World} {A : Around} {E : Value → Shared → Prop} {s : Shared}
theorem SC.at {h h' : Heap} {S : Addr} {led : Bool} {cs : List Nat} (x : SC prog w h S led cs) (k : ∀ o, h.get? S = some o → h'.get? S = some o) : SC prog w h' S led cs := by
  obtain ⟨es, a, b⟩ := x.ex
  exact ⟨es, a.at k, b⟩
theorem setNew {a : Value} {Q₁ : Value → Shared → Prop}
    (h : Q₁ (.ref s.heap.objs.size) { s with heap := s.heap.push { cls := .type "set", dict := none, data := .set #[] 0 (.fresh 0 0 (!w.params.followText "set-order")) } }) :
    codeAny (model prog w) A (.call (.builtin "set.__new__") ⟨[.type "set", a], []⟩) (wants Q₁ E) s := by
  refine codeAny_of_tree ?_
  show wpAny _ A.in1 (do checkBuiltinCall "set.__new__" ⟨[.type "set", a], []⟩; again (.builtin "set.__new__" ⟨[.type "set", a], []⟩)) _ _ s
  refine wpAny_bind (wpAny_of_eq (PySem.F.newCall_set_1 a) (wpAny_pure ⟨plainId_quiet PySem.F.plain_set_new _, codeAny_builtin PySem.F.entry_set_new ?_⟩))
  rw [Around.under_plainId PySem.F.plain_set_new _]
  unfold Builtin.«set.__new__» Builtin.Frozenset.newClass
  have hsub := sub_set_self
  obtain ⟨hp, g, d, tk, os⟩ := s
  dsimp only
  wp_walk
  refine wpAny_askSetting (wpAny_pure ?_)
  dsimp only
  simp only [newObj]
  refine wpAny_bind (wpAny_alloc (wpAny_pure ?_))
  exact wpAny_pure h
end
end L2
set_option Elab.async false
set_option linter.all false
set_option maxRecDepth 100000
set_option maxHeartbeats 3200000
namespace L2
open PySem PySem.Spec PyProof.Rows
section
variable {prog : Program} {w : World} {A : Around} {E : Value → Shared → Prop} {s : Shared}
end
end L2
set_option Elab.async false
set_option linter.all false
set_option maxRecDepth 100000
namespace L2
open PySem PySem.Spec PyProof.Rows
def tLenSet (ta : TA) : TE := fun σ H Q => ta σ H fun vs H1 => ∃ z : Str, vs = [.str z] ∧ z.length < 3900 ∧ ∀ ds : List Nat, ds.Nodup → (∀ c, c ∈ ds ↔ c ∈ z.cps.toList) → Q (.int (ds.length : Nat)) H1
end L2
set_option Elab.async false
set_option linter.all false
set_option maxRecDepth 100000
namespace L2
open PySem PySem.Spec PyProof.Rows
theorem lenApp (x y : Str) : (x ++ y).length = x.length + y.length := by rw [len_cps, app_cps, List.length_append, ← len_cps, ← len_cps]
/-- from which length on it is left -/
def begO (cs ys : List Nat) : Nat := match fsts cs 0 ys with | none => cs.length + 1 | some ks => match ks.getLast? with | none => 0 | some k => k + 1
def spOtherC : Sp := fun vs H Q _ => ∃ (p q0 : Addr) (z : Str) (cs : List Nat), vs = [.ref p, .str z, .ref q0, .int 80] ∧ DrawsAt H p ∧ SignsAt H q0 cs ∧ q0 ≠ p ∧ IsRow z ∧ z.length ≤ 80 ∧ ∀ (x : Str) (H' : Hp), IsRow x → x.length ≤ 80 → DrawsAt H' p → Kp p H H' → Q (.str x) H'
def spRightG (P : Addr) : Sp := fun vs H Q _ => ∃ z y : Str, vs = [.str z, .str y] ∧ IsRow z ∧ IsRow y ∧ z.length ≤ 80 ∧ y.length ≤ 80 ∧ H P = some (.ext (TabP P)) ∧ ∀ H', Same H H' → Q (.bl true) H'
end L2
set_option Elab.async false
set_option linter.all false
set_option maxRecDepth 100000
namespace L2
open PySem
/-- the places from at on that have the letter -/
def spotsN (xs : List Nat) (y : Nat) : Nat → Nat → List Nat
  | _, 0 => []
  | at_, d + 1 => if xs[at_]? = some y then at_ :: spotsN xs y (at_ + 1) d else spotsN xs y (at_ + 1) d
def spots (xs : List Nat) (y at_ : Nat) : List Nat := spotsN xs y at_ (xs.length - at_)
/-- which of the places, and what is left of the number -/
def pkL (F : Nat → Nat) : List Nat → Nat → Option (Nat × Nat)
  | [], _ => none
  | s :: sp, k => if k < F (s + 1) then some (s, k) else pkL F sp (k - F (s + 1))
/-- how many ways begin with a place of [at, at + d) -/
def ahs (xs : List Nat) (y : Nat) (ys : List Nat) (at_ : Nat) : Nat → Nat
  | 0 => 0
  | d + 1 => ahs xs y ys at_ d + if xs[at_ + d]? = some y then wys (xs.drop (at_ + d + 1)) ys else 0
/-- the way of a number -/
def wayP (xs : List Nat) : List Nat → Nat → Nat → Option (List Nat)
  | [], _, _ => some []
  | y :: ys, at_, n => match pkL (fun p => wys (xs.drop p) ys) (spots xs y at_) n with
    | none => none
    | some (s, k) => (wayP xs ys (s + 1) k).map (s :: ·)
/-- what the law tells of a way -/
inductive Way (xs : List Nat) : List Nat → Nat → List Nat → Nat → Prop
  | nil (at_ : Nat) : Way xs [] at_ [] 0
  | cons {y : Nat} {ys : List Nat} {at_ s : Nat} {w : List Nat} {k : Nat} (h1 : at_ ≤ s) (h2 : s < xs.length) (h3 : xs[s]? = some y) (h4 : k < wys (xs.drop (s + 1)) ys) (t : Way xs ys (s + 1) w k) : Way xs (y :: ys) at_ (s :: w) (ahs xs y ys at_ (s - at_) + k)
theorem Way.len {xs ys : List Nat} {at_ : Nat} {w : List Nat} {n : Nat} (h : Way xs ys at_ w n) : w.length = ys.length := by
  induction h with
  | nil => rfl
  | cons _ _ _ _ _ ih => rw [List.length_cons, List.length_cons, ih]
theorem Way.all {xs ys : List Nat} {at_ : Nat} {w : List Nat} {n : Nat} (h : Way xs ys at_ w n) : ∀ s ∈ w, at_ ≤ s ∧ s < xs.length := by
  induction h with
  | nil => exact fun _ h => nomatch h
  | cons h1 h2 h3 h4 t ih =>
    intro s hs
    rcases List.mem_cons.mp hs with rfl | hs
    · exact ⟨h1, h2⟩
    · obtain ⟨a, b⟩ := ih s hs
      exact ⟨by omega, b⟩
end L2
set_option Elab.async false
set_option linter.all false
set_option maxRecDepth 100000
namespace L2
open PySem PySem.Spec PyProof.Rows
def tLR (ta : TA) : TE := fun σ H Q => ta σ H fun vs H1 => ∃ j : Nat, vs = [.int (j : Int)] ∧ j ≤ 10000 ∧ ∀ p, H1 p = none → Q (.ref p) (upd H1 p (.lst (tabI j fun i => (i : Int))))
theorem pg_tupK {X : Cx} {K : PySem.W.Frag} (h : X.K = K) {es : List Expr} {k : Nat} {pos : Pos} {n : Nat} {t : TGs} (hs : PG X (.Tuple es k pos) (gTup X.K n t)) : PG X (.Tuple es k pos) (gTup K n t) := h ▸ hs
theorem lc_zip {K : PySem.W.Frag} {a b : Addr} {xs ys : List V} {g : TG} {tt : TT} {te : TE} {vs : List Nat} {σ : St} {H1 : Hp} {D : Addr} {Qd : Hp → Prop} (Pv : Nat → Hp → Prop) (h0 : Pv 0 (upd H1 D (.lst [])))
    (hl : ∀ i H, i ≤ min xs.length ys.length → Pv i H → SqL K H a xs ∧ SqL K H b ys)
    (hs : ∀ i x y T H, xs[i]? = some x → ys[i]? = some y → Pv i H → H T = none → g (.ref T) (wipe σ vs) (upd H T (.tup [x, y])) fun σ2 H2 => wipe σ2 vs = wipe σ vs ∧ tt σ2 H2 fun b H3 =>
      if b = true then te σ2 H3 fun y H4 => ∃ acc, H4 D = some (.lst acc) ∧ acc.length < sizeLine ∧ Pv (i + 1) (upd H4 D (.lst (acc ++ [y]))) else Pv (i + 1) H3) (hd : ∀ H, Pv (min xs.length ys.length) H → Qd H) :
    ∃ W : Nat → Nat → Hp → Prop, (∃ m, W 0 m (upd H1 D (.lst []))) ∧ ∀ i m H, W i m H →
      ((Itz K a b).stop i H ∧ Qd H) ∨ ((Itz K a b).go i H ∧ ∃ Nx : Hp → Prop, (∀ H', Nx H' → ∃ m', m' < m ∧ W (i + 1) m' H') ∧ ∀ x H', (Itz K a b).yld i H x H' → g x (wipe σ vs) H' fun σ2 H2 => wipe σ2 vs = wipe σ vs ∧ tt σ2 H2 fun b H3 =>
        if b = true then te σ2 H3 fun y H4 => ∃ acc, H4 D = some (.lst acc) ∧ acc.length < sizeLine ∧ Nx (upd H4 D (.lst (acc ++ [y]))) else Nx H3) := by
  refine ⟨fun i m H => m = min xs.length ys.length - i ∧ i ≤ min xs.length ys.length ∧ Pv i H, ⟨min xs.length ys.length, (Nat.sub_zero _).symm, Nat.zero_le _, h0⟩, ?_⟩
  rintro i m H ⟨rfl, hi, p⟩
  obtain ⟨h1, h2⟩ := hl i H hi p
  by_cases hlt : i < min xs.length ys.length
  · have ex : xs[i]? = some xs[i] := List.getElem?_eq_getElem (by omega)
    have ey : ys[i]? = some ys[i] := List.getElem?_eq_getElem (by omega)
    refine .inr ⟨⟨xs, ys, _, _, h1, h2, ex, ey⟩, Pv (i + 1), fun H' p' => ⟨min xs.length ys.length - (i + 1), by omega, rfl, hlt, p'⟩, fun x H' y => ?_⟩
    obtain ⟨T, x1, y1, rfl, hT, rfl, e1, e2⟩ := y
    exact hs i x1 y1 T H (e1 xs h1) (e2 ys h2) p hT
  · have e : i = min xs.length ys.length := by omega
    subst e
    exact .inl ⟨⟨xs, ys, h1, h2, by omega⟩, hd H p⟩
end L2
set_option Elab.async false
set_option linter.all false
set_option maxRecDepth 100000
namespace L2
open PySem PySem.Spec PyProof.Rows
def Big (i : Int) : Prop := i.natAbs < 2 ^ 200
theorem Way.fin {xs ys : List Nat} {at_ n : Nat} (h : Way xs ys at_ [] n) : n = 0 := by
  cases h
  rfl
end L2
set_option Elab.async false
set_option linter.all false
set_option maxRecDepth 100000
namespace L2
open PySem PySem.Spec PyProof.Rows
/-- ways to take so many -/
def ch : Nat → Nat → Nat
  | _, 0 => 1
  | 0, _ + 1 => 0
  | n + 1, k + 1 => ch n k + ch n (k + 1)
def lasti (c : Nat) (xs : List Nat) : Int := match bef c xs with | none => -1 | some r => (r.length : Int)
section
variable {X : Cx}
def rRfindS : V → List V → Hp → VK → Prop := fun x xs H Q => ∃ (z : Str) (c : Nat), x = .str z ∧ xs = [.str (sg c)] ∧ Q (.int (lasti c z.cps.toList)) H
end
def nextL (c : Nat) : Nat := if c = 122 then 97 else c + 1
theorem nextL_inj {x y : Nat} (hx : 97 ≤ x ∧ x ≤ 122) (hy : 97 ≤ y ∧ y ≤ 122) (h : nextL x = nextL y) : x = y := by
  unfold nextL at h
  split at h <;> split at h <;> omega
def spCalled : Sp := fun vs H Q _ => ∃ z : Str, vs = [.str z] ∧ IsRow z ∧ z.length ≤ 200 ∧ ∀ (y : Str) (H' : Hp), y.cps.toList = z.cps.toList.map nextL → Same H H' → Q (.str y) H'
def spRight1 : Sp := fun vs H Q _ => ∃ z : Str, vs = [.str z] ∧ IsRow z ∧ z.length ≤ 80 ∧ ∀ H', Same H H' → Q (.bl true) H'
def spMoreR : Sp := fun vs H Q _ => ∃ (z : Str) (c : Nat), vs = [.str z, .str (sg c)] ∧ z.length ≤ 80 ∧ ∀ H', Same H H' → Q (.bl true) H'
def spApartR : Sp := fun vs H Q _ => ∃ z y : Str, vs = [.str z, .str y] ∧ IsRow z ∧ IsRow y ∧ z.length ≤ 80 ∧ y.length ≤ 80 ∧ ∀ H', Same H H' → Q (.bl true) H'
theorem nxt_abca {c : Nat} (hc : 97 ≤ c ∧ c ≤ 122) : nxt (Str.ofString "abcdefghijklmnopqrstuvwxyza").cps.toList 0 (sg c) = some (c - 97) := by
  have e : (Str.ofString "abcdefghijklmnopqrstuvwxyza").cps.toList = (List.range 26).map (97 + ·) ++ [97] := by decide +kernel
  rw [e]
  have hk : ((List.range 26).map (97 + ·) ++ [97])[c - 97]? = some c := by
    rw [List.getElem?_append_left (by rw [List.length_map, List.length_range]; omega), List.getElem?_map, List.getElem?_range (by omega)]
    show some (97 + (c - 97)) = some c
    congr 1; omega
  refine nxt_first hk (c - 97) 0 (by omega) fun v _ hv hc2 => ?_
  rw [List.getElem?_append_left (by rw [List.length_map, List.length_range]; omega), List.getElem?_map, List.getElem?_range (by omega)] at hc2
  have : 97 + v = c := Option.some.inj hc2
  omega
theorem abca_at {c : Nat} (hc : 97 ≤ c ∧ c ≤ 122) : atI (Str.ofString "abcdefghijklmnopqrstuvwxyza").cps.toList (((c - 97 : Nat) : Int) + 1) = some (nextL c) := by
  have e : (Str.ofString "abcdefghijklmnopqrstuvwxyza").cps.toList = (List.range 27).map fun i => if i = 26 then 97 else 97 + i := by decide +kernel
  have e2 : ((c - 97 : Nat) : Int) + 1 = ((c - 96 : Nat) : Int) := by omega
  rw [e, e2]
  refine atI_nat ?_
  rw [List.getElem?_map, List.getElem?_range (by omega)]
  show some (if c - 96 = 26 then 97 else 97 + (c - 96)) = some (nextL c)
  unfold nextL
  congr 1
  split <;> split <;> omega
end L2
namespace L2
open PySem PySem.Spec PyProof.Rows
def lowL (c : Nat) : Nat := 97 + (c - 97) % 13
def highL (c : Nat) : Nat := 97 + (13 + (c - 97) % 13)
end L2
set_option Elab.async false
set_option linter.all false
set_option maxRecDepth 100000
set_option maxHeartbeats 3200000
namespace L2
open PySem PySem.Spec PyProof.Rows
theorem owner_si : Manifest.owners.lookup (String.ofList ['r', 'o', 't', 'a', 'r', 'e', 't', 'i', '_', 't', 'e', 's'].reverse) = some Manifest.sig_set_iterator := by kernel_rfl
theorem slot_si_next : Slot "set_iterator" "__next__" "set_iterator.__next__" :=
  .of (owner := "set_iterator") (n := "__next__") (by rw [typeLookup_type, builtinLookup_eq_fast]; kernel_rfl) (by decide +kernel) (by decide +kernel) (by decide +kernel)
    (by first | exact .inl (by decide +kernel) | exact .inr (by decide +kernel)) (by rw [isSubtype_type]; kernel_rfl)
theorem entry_si_next : entryFor table "set_iterator.__next__" = some Builtin.«set_iterator.__next__» := entryFor_of_tree (by kernel_rfl)
theorem args_si_next (a : Value) : argsOk "set_iterator.__next__" ⟨[a], []⟩ := by
  unfold argsOk; rw [signature?_of (id := "set_iterator.__next__") (n := ['_', '_', 't', 'x', 'e', 'n', '_', '_']) (o := ['r', 'o', 't', 'a', 'r', 'e', 't', 'i', '_', 't', 'e', 's']) (by kernel_rfl) owner_si]; kernel_rfl
theorem slot_si_iter : Slot "set_iterator" "__iter__" "set_iterator.__iter__" :=
  .of (owner := "set_iterator") (n := "__iter__") (by rw [typeLookup_type, builtinLookup_eq_fast]; kernel_rfl) (by decide +kernel) (by decide +kernel) (by decide +kernel)
    (by first | exact .inl (by decide +kernel) | exact .inr (by decide +kernel)) (by rw [isSubtype_type]; kernel_rfl)
theorem args_si_iter (a : Value) : argsOk "set_iterator.__iter__" ⟨[a], []⟩ := by
  unfold argsOk; rw [signature?_of (id := "set_iterator.__iter__") (n := ['_', '_', 'r', 'e', 't', 'i', '_', '_']) (o := ['r', 'o', 't', 'a', 'r', 'e', 't', 'i', '_', 't', 'e', 's']) (by kernel_rfl) owner_si]; kernel_rfl
theorem entry_si_iter : entryFor table "set_iterator.__iter__" = some Builtin.«dict_keyiterator.__iter__» :=
  entryFor_alias (id' := "dict_keyiterator.__iter__") (by kernel_rfl) (by first | rfl | decide +kernel | (unfold String.splitOn; simp +decide [String.splitOnAux])) (by decide +kernel) (by kernel_rfl)
theorem entry_set_it : entryFor table "set.__iter__" = some Builtin.«frozenset.__iter__» :=
  entryFor_alias (id' := "frozenset.__iter__") (by kernel_rfl) (by first | rfl | decide +kernel | (unfold String.splitOn; simp +decide [String.splitOnAux])) (by decide +kernel) (by kernel_rfl)
theorem set_len : typeLookup (.type "set") "__len__" = pure (some (.builtin "set.__len__")) := by rw [typeLookup_type, builtinLookup_eq_fast]; kernel_rfl
section
variable {prog : Program} {w : World} {A : Around} {E : Value → Shared → Prop} {s : Shared}
theorem cons_erase_perm {α : Type} : ∀ {l : List α} {i : Nat} (h : i < l.length), (l[i] :: l.eraseIdx i).Perm l
  | a :: l, 0, _ => .rfl
  | a :: l, i + 1, h => by
    have h' : i < l.length := by simpa using h
    exact (List.Perm.swap a l[i] (l.eraseIdx i)).trans ((cons_erase_perm h').cons a)
theorem pick_go {α : Type} (next : Nat → Nat) : ∀ (fuel k : Nat) (left : List α) (out : Array α), left.length ≤ fuel → (pickOrder.go next fuel k left out).toList.Perm (out.toList ++ left)
  | 0, k, left, out, h => by
    have e : left = [] := List.eq_nil_of_length_eq_zero (by omega)
    subst e
    unfold pickOrder.go
    rw [List.append_nil]
  | fuel + 1, k, [], out, h => by
    unfold pickOrder.go
    simp
  | fuel + 1, k, x :: xs, out, h => by
    unfold pickOrder.go
    have hi : next k % (x :: xs).length < (x :: xs).length := Nat.mod_lt _ (by simp)
    rw [List.getElem?_eq_getElem hi]
    dsimp only
    refine (pick_go next fuel (k + 1) _ _ (by rw [List.length_eraseIdx_of_lt hi]; simp at h ⊢; omega)).trans ?_
    rw [Array.toList_push, List.append_assoc]
    exact List.Perm.append_left _ (cons_erase_perm hi)
theorem pick_perm {α : Type} (next : Nat → Nat) (xs : Array α) : (pickOrder next xs).toList.Perm xs.toList := by
  have := pick_go next xs.size 0 xs.toList #[] (by rw [Array.length_toList]; exact Nat.le_refl _)
  exact this
theorem wp_choose {src : Source} {n : Nat} {Q : Nat → Shared → Prop} (hn : n ≠ 0) (h : ∀ i, i < n → Q i { s with drawn := s.drawn.bump src }) : wpAny (model prog w) A (choose src n) Q E s :=
  fun _ _ _ => ⟨hn, h _ (Nat.mod_lt _ (Nat.pos_of_ne_zero hn))⟩
theorem draw_perm {α : Type} : ∀ (n : Nat) (xs : List α) (s : Shared) (Q : List α → Shared → Prop), n = xs.length → (∀ ys d, ys.Perm xs → Q ys { s with drawn := d }) → wpAny (model prog w) A (drawOrder n xs) Q E s
  | 0, xs, s, Q, hn, h => by
    have e : xs = [] := List.eq_nil_of_length_eq_zero hn.symm
    subst e
    unfold drawOrder
    exact wpAny_pure (h [] s.drawn .rfl)
  | n + 1, [], s, Q, hn, h => by simp at hn
  | n + 1, x :: xs, s, Q, hn, h => by
    unfold drawOrder
    refine wpAny_bind (wp_choose (by simp) fun i hi => ?_)
    rw [List.getElem?_eq_getElem hi]
    dsimp only
    refine wpAny_bind (draw_perm n ((x :: xs).eraseIdx i) _ _ ?_ fun ys d hp => wpAny_pure ?_)
    · rw [List.length_eraseIdx_of_lt hi]
      simp at hn ⊢
      omega
    · exact h _ d ((hp.cons _).trans (cons_erase_perm hi))
/-- the set iterator -/
abbrev SI (h : Heap) (I S : Addr) (first : Value) (i : Int) (n ep : Nat) : Prop := h.get? I = some { cls := .type "set_iterator", dict := none, data := .fields #[first, rawInt i, .ref S, rawInt n, rawInt ep], slots := #[] }
structure SO (h : Heap) (S : Addr) (ea : Array (Int × Value)) (ep : Nat) (t : SetTable) : Prop where
  ex : ∃ o : Obj, h.get? S = some o ∧ o.data = .set ea ep t
  ft : t.fits ea.size = true
theorem SO.at {h h' : Heap} {S : Addr} {ea : Array (Int × Value)} {ep : Nat} {t : SetTable} (x : SO h S ea ep t) (k : ∀ o, h.get? S = some o → h'.get? S = some o) : SO h' S ea ep t := by
  obtain ⟨⟨o, a, b⟩, c⟩ := x
  exact ⟨⟨o, k _ a, b⟩, c⟩
theorem SO.state {S : Addr} {ea : Array (Int × Value)} {ep : Nat} {t : SetTable} {Q : (Array (Int × Value) × Nat × SetTable) → Shared → Prop} (x : SO s.heap S ea ep t) (h : Q (ea, ep, t) s) : wpAny (model prog w) A (setState S) Q E s := by
  obtain ⟨⟨o, a, b⟩, c⟩ := x
  exact wpAny_setState_of a b c h
theorem stop_now {α : Type} {Q : α → Shared → Prop} {E' : Value → Shared → Prop} (hh : A.handled = none) (h : ∀ h' e, (∀ b o, s.heap.get? b = some o → h'.get? b = some o) → (∃ o, h'.get? e = some o ∧ o.cls = .type "StopIteration") → E' (.ref e) { s with heap := h' }) :
    wpAny (model prog w) A (newExc (.type "StopIteration") [] >>= fun e => (raiseNew e : Sem α)) Q E' s := by
  refine wpAny_bind ?_
  simp only [newExc, newTuple]
  refine wpAny_bind (wpAny_newObj_type ?_ (by size_fits))
  refine wpAny_bind (m := firstArgMember _ _) (wpAny_of_eq (a := Value.none) (by first | rfl | (simp only [firstArgMember]; rfl)) ?_)
  refine wpAny_newObj_type ?_ (by size_fits)
  refine wpAny_raiseNew_none hh ?_
  exact h _ _ (fun b o e => Heap.get?_push_of_some _ (Heap.get?_push_of_some _ e)) ⟨_, Heap.get?_push_size _ rfl, rfl⟩
def vAt (ea : Array (Int × Value)) (j : Nat) : Option Value := (ea[j]?).map Prod.snd
theorem vAt_lt {ea : Array (Int × Value)} {j : Nat} (h : j < ea.size) : vAt ea j = some ea[j].2 := by unfold vAt; rw [Array.getElem?_eq_getElem h]; rfl
/-- the three ways of walking: what is told at i -/
inductive How (w : World) (h : Heap) (S : Addr) (ea : Array (Int × Value)) (ep : Nat) (t : SetTable) : Value → Nat → List Value → Prop
  | drawn (T : Addr) (ord : List Nat) (i : Nat) : h.get? T = some { cls := .type "tuple", data := .seq (ord.map fun (j : Nat) => rawInt j).toArray } → (∀ j ∈ ord, j < ea.size) → How w h S ea ep t (.ref T) i (ord.filterMap (vAt ea))
  | text (i : Nat) : w.params.followText "set-order" = true → How w h S ea ep t (rawInt 0) i ((pickOrder (w.params.setOrder S ep) ea).toList.map (·.2))
  | none : w.params.followText "set-order" = false → ea.size = 0 → How w h S ea ep t (rawInt 0) 0 []
  | one0 (x : Int × Value) : w.params.followText "set-order" = false → ea = #[x] → t.led = true → How w h S ea ep t (rawInt 0) 0 [x.2]
  | one1 (x : Int × Value) (j : Nat) : w.params.followText "set-order" = false → ea = #[x] → t.led = true → t.place = #[j] → How w h S ea ep t (rawInt (j + 1)) 1 [x.2]
theorem below_one (j : Nat) (d : Nat) : SetTable.below #[j] d = if j < d then 1 else 0 := by
  unfold SetTable.below
  show SetTable.below.go #[j] d 1 0 1 = _
  unfold SetTable.below.go
  rw [if_pos (by decide)]
  show (if (#[j] : Array Nat).getD ((0 + 1) / 2) d < d then SetTable.below.go #[j] d 0 ((0 + 1) / 2 + 1) 1 else SetTable.below.go #[j] d 0 0 ((0 + 1) / 2)) = _
  show (if j < d then SetTable.below.go #[j] d 0 (0 + 1) 1 else SetTable.below.go #[j] d 0 0 0) = _
  split <;> rfl
theorem byText_ {Q : Bool → Shared → Prop} (h : Q (w.params.followText "set-order") s) : wpAny (model prog w) A setsByText Q E s := by
  unfold setsByText
  exact wpAny_bind (wpAny_askSetting (wpAny_pure h))
/-- one step of the code behind the fields -/
theorem si_next {I S : Addr} {first : Value} {i n ep : Nat} {ea : Array (Int × Value)} {t : SetTable} {ws : List Value} {x : Value} {Q : Option Value → Shared → Prop}
    (hI : SI s.heap I S first i n ep) (hS : SO s.heap S ea ep t) (hn : ea.size = n) (hw : How w s.heap S ea ep t first i ws) (hne : S ≠ I) (hTI : ∀ T, first = .ref T → T ≠ I) (hx : ws[i]? = some x)
    (hQ : ∀ h' first', SI h' I S first' ((i : Int) + 1) n ep → Heap.SameBut I s.heap h' → How w h' S ea ep t first' (i + 1) ws → (∀ T, first' = .ref T → first = .ref T) → Q (some x) { s with heap := h' }) :
    wpAny (model prog w) A (pyNext (.ref I)) Q E s := by
  have hT : s.TypeIs (.ref I) "set_iterator" := ⟨_, hI, rfl⟩
  unfold pyNext
  refine wpAny_bind (wpAny_attempt (wpAny_callSpecial?_slot (name := Str.ofString "__next__") hT slot_si_next (wpAny_call_entry slot_si_next hT entry_si_next ?_ (args_si_next _))))
  unfold Builtin.«set_iterator.__next__»
  refine wpAny_bind (wpAny_of_eq (a := (Value.ref I, [])) rfl ?_)
  dsimp only
  refine wpAny_bind (wpAny_fieldsOf hI rfl ?_)
  dsimp only
  unfold setEntries
  refine wpAny_bind (wpAny_bind (hS.state (wpAny_pure ?_)))
  dsimp only
  refine wpAny_ite_split (fun hab => absurd hab (by rw [hn]; simp)) fun _ => ?_
  cases hw with
  | drawn T ord i hTt hord =>
    dsimp only
    refine wpAny_bind (wpAny_seqItems hTt rfl ?_)
    dsimp only
    obtain ⟨j, hj, hjx⟩ : ∃ j, ord[i]? = some j ∧ vAt ea j = some x := by
      have key : ∀ (l : List Nat) (i : Nat), (∀ j ∈ l, j < ea.size) → (l.filterMap (vAt ea))[i]? = some x → ∃ j, l[i]? = some j ∧ vAt ea j = some x := by
        intro l
        induction l with
        | nil => intro i _ h; simp at h
        | cons a l ih =>
          intro i hb h
          have ha := hb a (List.mem_cons_self ..)
          have e := vAt_lt ha
          rw [List.filterMap_cons_some e] at h
          cases i with
          | zero => exact ⟨a, rfl, by rw [e]; simpa using h⟩
          | succ i => exact ih i (fun j hj => hb j (List.mem_cons_of_mem _ hj)) (by simpa using h)
      exact key ord i hord hx
    have hp : ((ord.map fun (j : Nat) => rawInt j).toArray)[((i : Int)).toNat]? = some (rawInt j) := by
      rw [Int.toNat_natCast, List.getElem?_toArray, List.getElem?_map, hj]; rfl
    rw [hp]
    show wpAny _ _ (setNextDrawn S ((j : Int)).toNat ((ep : Int)).toNat >>= _) _ _ _
    rw [Int.toNat_natCast, Int.toNat_natCast]
    unfold setNextDrawn
    refine wpAny_bind (wpAny_bind (hS.state ?_))
    dsimp only
    refine wpAny_ite_split (fun hab => absurd hab (by simp)) fun _ => ?_
    obtain ⟨e0, he0, he1⟩ := Option.map_eq_some_iff.mp hjx
    rw [he0]
    dsimp only
    refine wpAny_pure ?_
    refine wpAny_bind (wpAny_setField_rec hI (by simp) fun h1 hI1 hs1 => ?_)
    replace hI1 : SI h1 I S (.ref T) ((i : Int) + 1) n ep := hI1
    have hTh : h1.get? T = some { cls := .type "tuple", data := .seq (ord.map fun (j : Nat) => rawInt j).toArray } := (hs1.2 T (hTI T rfl)).trans hTt
    refine wpAny_pure ⟨_, rfl, wpAny_pure ?_⟩
    rw [he1]
    exact hQ h1 _ hI1 hs1 (.drawn T ord (i + 1) hTh hord) fun T e => e
  | text i hb =>
    show wpAny _ _ (setNext S 0 ((i : Int)).toNat ((ep : Int)).toNat >>= _) _ _ _
    rw [Int.toNat_natCast, Int.toNat_natCast]
    refine wpAny_bind ?_
    unfold setNext
    refine wpAny_bind (hS.state ?_)
    dsimp only
    refine wpAny_bind (byText_ ?_)
    rw [hb]
    simp only [if_true]
    refine wpAny_ite_split (fun hab => absurd hab (by simp)) fun _ => ?_
    refine wpAny_bind ?_
    unfold setWalk
    refine wpAny_bind (hS.state ?_)
    dsimp only
    refine wpAny_bind (byText_ ?_)
    rw [hb]
    simp only [if_true]
    refine wpAny_bind (wpAny_askSetting (wpAny_pure ?_))
    obtain ⟨e0, he0, he1⟩ : ∃ e0, (pickOrder (w.params.setOrder S ep) ea)[i]? = some e0 ∧ e0.2 = x := by
      rw [List.getElem?_map, Array.getElem?_toList] at hx
      exact Option.map_eq_some_iff.mp hx
    refine wpAny_pure ?_
    show wpAny _ _ (match ((pickOrder (w.params.setOrder S ep) ea)[i]?).map (fun e => (e.2, 0)) with | some (x, next) => _ | none => _) _ _ _
    rw [he0]
    show wpAny _ _ (setField (.ref I) 0 (rawInt ((0 : Nat) : Int)) >>= _) _ _ _
    refine wpAny_bind (wpAny_setField_rec hI (by simp) fun h1 hI1 hs1 => ?_)
    replace hI1 : SI h1 I S (rawInt 0) i n ep := hI1
    refine wpAny_bind (wpAny_setField_rec (s := { s with heap := h1 }) hI1 (by simp) fun h2 hI2 hs2 => ?_)
    replace hI2 : SI h2 I S (rawInt 0) ((i : Int) + 1) n ep := hI2
    refine wpAny_pure ⟨_, rfl, wpAny_pure ?_⟩
    rw [he1]
    exact hQ h2 _ hI2 (hs1.trans hs2) (.text (i + 1) hb) (fun T e => by cases e)
  | none hb h0 => simp at hx
  | one0 x0 hb h0 hl =>
    have ex : x0.2 = x := by simpa using hx
    subst h0
    obtain ⟨j, hpl⟩ : ∃ j, t.place = #[j] := by
      have := hS.ft
      simp only [SetTable.fits, Bool.and_eq_true, beq_iff_eq] at this
      have h1 : t.place.size = 1 := this.1
      obtain ⟨l, hl⟩ : ∃ l, l = t.place.toList := ⟨_, rfl⟩
      match l, hl with
      | [], hl => rw [← Array.length_toList, ← hl] at h1; cases h1
      | [a], hl => exact ⟨a, Array.toList_inj.mp hl.symm⟩
      | a :: b :: r, hl => rw [← Array.length_toList, ← hl] at h1; simp at h1
    show wpAny _ _ (setNext S 0 0 ((ep : Int)).toNat >>= _) _ _ _
    refine wpAny_bind ?_
    unfold setNext
    refine wpAny_bind (hS.state ?_)
    dsimp only
    refine wpAny_bind (byText_ ?_)
    rw [hb]
    simp only [Bool.false_eq_true, if_false]
    refine wpAny_ite_split (fun hab => absurd (show (!t.plain && decide (1 > 1)) = true from hab) (by simp)) fun _ => ?_
    refine wpAny_bind (show wpAny _ _ (if (!t.led && !(#[x0] : Array (Int × Value)).isEmpty) = true then unsupported "set:maker-not-led" else pure PUnit.unit) _ _ _ from ?_)
    refine wpAny_ite_split (fun hab => absurd hab (by rw [hl]; simp)) fun _ => wpAny_pure ?_
    refine wpAny_pure ?_
    rw [hpl, below_one, if_neg (by omega)]
    show wpAny _ _ (setField (.ref I) 0 (rawInt ((j + 1 : Nat) : Int)) >>= _) _ _ _
    refine wpAny_bind (wpAny_setField_rec hI (by simp) fun h1 hI1 hs1 => ?_)
    replace hI1 : SI h1 I S (rawInt ((j + 1 : Nat) : Int)) ((0 : Nat) : Int) n ep := hI1
    refine wpAny_bind (wpAny_setField_rec (s := { s with heap := h1 }) hI1 (by simp) fun h2 hI2 hs2 => ?_)
    replace hI2 : SI h2 I S (rawInt ((j + 1 : Nat) : Int)) (((0 : Nat) : Int) + 1) n ep := hI2
    refine wpAny_pure ⟨_, rfl, wpAny_pure ?_⟩
    rw [ex]
    exact hQ h2 _ hI2 (hs1.trans hs2) (.one1 x0 j hb rfl hl hpl) (fun T e => by cases e)
  | one1 x0 j hb h0 hl hp => simp at hx
theorem si_end {I S : Addr} {first : Value} {i n ep : Nat} {ea : Array (Int × Value)} {t : SetTable} {ws : List Value} {Q : Option Value → Shared → Prop} (hh : A.handled = none)
    (hI : SI s.heap I S first i n ep) (hS : SO s.heap S ea ep t) (hn : ea.size = n) (hw : How w s.heap S ea ep t first i ws) (hx : ws[i]? = none)
    (hQ : ∀ h', (∀ b o, b ≠ I → s.heap.get? b = some o → h'.get? b = some o) → Q none { s with heap := h' }) :
    wpAny (model prog w) A (pyNext (.ref I)) Q E s := by
  have hT : s.TypeIs (.ref I) "set_iterator" := ⟨_, hI, rfl⟩
  unfold pyNext
  refine wpAny_bind (wpAny_attempt (wpAny_callSpecial?_slot (name := Str.ofString "__next__") hT slot_si_next (wpAny_call_entry slot_si_next hT entry_si_next ?_ (args_si_next _))))
  unfold Builtin.«set_iterator.__next__»
  refine wpAny_bind (wpAny_of_eq (a := (Value.ref I, [])) rfl ?_)
  dsimp only
  refine wpAny_bind (wpAny_fieldsOf hI rfl ?_)
  dsimp only
  unfold setEntries
  refine wpAny_bind (wpAny_bind (hS.state (wpAny_pure ?_)))
  dsimp only
  refine wpAny_ite_split (fun hab => absurd hab (by rw [hn]; simp)) fun _ => ?_
  have fin : ∀ (first' : Value) (h0 : Heap), SI h0 I S first' i n ep → (∀ b o, b ≠ I → s.heap.get? b = some o → h0.get? b = some o) →
      wpAny (model prog w) A.in1 (setField (.ref I) 2 .none >>= fun _ => newExc (.type "StopIteration") [] >>= fun e => (raiseNew e : Sem Fin))
        (fun fin s' => ∃ v, fin = Fin.done (.ret v) ∧ wpAny (model prog w) A (pure (some v)) Q E s') (fun e s' => wpAny (model prog w) A (do
          if (← isInstance e (.type "StopIteration")) = true then pure Option.none else throw e) Q E s') { s with heap := h0 } := by
    intro first' h0 hI0 hk
    refine wpAny_bind (wpAny_setField_rec (s := { s with heap := h0 }) hI0 (by simp) fun h1 hI1 hs1 => ?_)
    refine stop_now (s := { s with heap := h1 }) hh fun h' e hk' hex => ?_
    obtain ⟨o, ho, hc⟩ := hex
    refine wpAny_bind (wpAny_isInstance (T := "StopIteration") (b := true) ⟨o, ho, hc⟩ isSubtype_stop ?_)
    exact wpAny_pure (hQ _ fun b o hb e' => hk' b o (hs1.extBut b o hb (hk b o hb e')))
  cases hw with
  | drawn T ord i hTt hord =>
    dsimp only
    refine wpAny_bind (wpAny_seqItems hTt rfl ?_)
    dsimp only
    have hlen : ∀ l : List Nat, (∀ j ∈ l, j < ea.size) → (l.filterMap (vAt ea)).length = l.length := by
      intro l
      induction l with
      | nil => intro _; rfl
      | cons a l ih =>
        intro hb
        have ha := hb a (List.mem_cons_self ..)
        rw [List.filterMap_cons_some (vAt_lt ha), List.length_cons, ih fun j hj => hb j (List.mem_cons_of_mem _ hj), List.length_cons]
    have hp : ((ord.map fun (j : Nat) => rawInt j).toArray)[((i : Int)).toNat]? = Option.none := by
      rw [Int.toNat_natCast, List.getElem?_toArray, List.getElem?_map]
      have h1 := List.getElem?_eq_none_iff.mp hx
      rw [hlen ord hord] at h1
      rw [List.getElem?_eq_none_iff.mpr h1]; rfl
    rw [hp]
    refine wpAny_bind (wpAny_setField_rec hI (by simp) fun h1 hI1 hs1 => ?_)
    exact fin _ h1 hI1 fun b o hb e' => hs1.extBut b o hb e'
  | text i hb =>
    show wpAny _ _ (setNext S 0 ((i : Int)).toNat ((ep : Int)).toNat >>= _) _ _ _
    rw [Int.toNat_natCast, Int.toNat_natCast]
    refine wpAny_bind ?_
    unfold setNext
    refine wpAny_bind (hS.state ?_)
    dsimp only
    refine wpAny_bind (byText_ ?_)
    rw [hb]
    simp only [if_true]
    refine wpAny_ite_split (fun hab => absurd hab (by simp)) fun _ => ?_
    refine wpAny_bind ?_
    unfold setWalk
    refine wpAny_bind (hS.state ?_)
    dsimp only
    refine wpAny_bind (byText_ ?_)
    rw [hb]
    simp only [if_true]
    refine wpAny_bind (wpAny_askSetting (wpAny_pure ?_))
    have he0 : (pickOrder (w.params.setOrder S ep) ea)[i]? = Option.none := by
      rw [List.getElem?_map, Array.getElem?_toList] at hx
      exact Option.map_eq_none_iff.mp hx
    refine wpAny_pure ?_
    show wpAny _ _ (match ((pickOrder (w.params.setOrder S ep) ea)[i]?).map (fun e => (e.2, 0)) with | some (x, next) => _ | Option.none => _) _ _ _
    rw [he0]
    exact fin _ s.heap hI fun b o hb e' => e'
  | none hb h0 =>
    show wpAny _ _ (setNext S 0 0 ((ep : Int)).toNat >>= _) _ _ _
    have e0 : ea = #[] := Array.eq_empty_of_size_eq_zero h0
    subst e0
    refine wpAny_bind ?_
    unfold setNext
    refine wpAny_bind (hS.state ?_)
    dsimp only
    refine wpAny_bind (byText_ ?_)
    rw [hb]
    simp only [Bool.false_eq_true, if_false]
    refine wpAny_ite_split (fun hab => absurd (show (!t.plain && decide (0 > 1)) = true from hab) (by simp)) fun _ => ?_
    refine wpAny_bind (show wpAny _ _ (if (!t.led && !(#[] : Array (Int × Value)).isEmpty) = true then unsupported "set:maker-not-led" else pure PUnit.unit) _ _ _ from ?_)
    refine wpAny_ite_split (fun hab => absurd hab (by simp)) fun _ => wpAny_pure ?_
    refine wpAny_pure ?_
    have hp : t.place = #[] := by
      have := hS.ft
      simp only [SetTable.fits, Bool.and_eq_true, beq_iff_eq] at this
      exact Array.eq_empty_of_size_eq_zero this.1
    rw [hp]
    exact fin _ s.heap hI fun b o hb e' => e'
  | one0 x0 hb h0 hl => simp at hx
  | one1 x0 j hb h0 hl hp =>
    subst h0
    show wpAny _ _ (setNext S (((j : Int) + 1)).toNat 1 ((ep : Int)).toNat >>= _) _ _ _
    have ej : ((j : Int) + 1).toNat = j + 1 := by omega
    rw [ej]
    refine wpAny_bind ?_
    unfold setNext
    refine wpAny_bind (hS.state ?_)
    dsimp only
    refine wpAny_bind (byText_ ?_)
    rw [hb]
    simp only [Bool.false_eq_true, if_false]
    refine wpAny_ite_split (fun hab => absurd (show (!t.plain && decide (1 > 1)) = true from hab) (by simp)) fun _ => ?_
    refine wpAny_bind (show wpAny _ _ (if (!t.led && !(#[x0] : Array (Int × Value)).isEmpty) = true then unsupported "set:maker-not-led" else pure PUnit.unit) _ _ _ from ?_)
    refine wpAny_ite_split (fun hab => absurd hab (by rw [hl]; simp)) fun _ => wpAny_pure ?_
    refine wpAny_pure ?_
    rw [hp, below_one, if_pos (by omega)]
    exact fin _ s.heap hI fun b o hb e' => e'
end
end L2
set_option Elab.async false
set_option linter.all false
set_option maxRecDepth 100000
set_option maxHeartbeats 3200000
namespace L2
open PySem PySem.Spec PyProof.Rows
section
variable {prog : Program} {w : World} {A : Around} {E : Value → Shared → Prop} {s : Shared}
/-- the iterator I walks the set at S and tells ws -/
def SSt (w : World) (I S : Addr) (fp : List Addr) (ea : Array (Int × Value)) (ep : Nat) (t : SetTable) (ws : List Value) (i : Nat) (h : Heap) : Prop :=
  ∃ first, SI h I S first i ea.size ep ∧ SO h S ea ep t ∧ How w h S ea ep t first i ws ∧ ∀ T, first = .ref T → T ≠ I ∧ T ∈ fp
theorem How.keep {h h' : Heap} {S : Addr} {ea : Array (Int × Value)} {ep : Nat} {t : SetTable} {first : Value} {i : Nat} {ws : List Value} (x : How w h S ea ep t first i ws) (k : ∀ T o, first = .ref T → h.get? T = some o → h'.get? T = some o) : How w h' S ea ep t first i ws := by
  cases x with
  | drawn T ord i a b => exact .drawn T ord i (k T _ rfl a) b
  | text i a => exact .text i a
  | none a b => exact .none a b
  | one0 x a b c => exact .one0 x a b c
  | one1 x j a b c d => exact .one1 x j a b c d
theorem set_hint {S : Addr} (hT : s.TypeIs (.ref S) "set") {Q : Bool → Shared → Prop} (h : Q false s) : wpAny (model prog w) A (Builtin.List.listLengthHint (.ref S)) Q E s := by
  unfold Builtin.List.listLengthHint
  refine wpAny_bind (wpAny_specialOf hT set_len ?_)
  generalize hid : ("set.__len__" : String) = id0
  wp_delta
  rw [show splitId id0 = some ("set", "__len__") from by subst hid; decide +kernel]
  subst hid
  refine wpAny_bind (wpAny_isInstance (T := "set") (b := true) hT (by rw [isSubtype_type]; kernel_rfl) ?_)
  refine wpAny_ite_split (fun hab => absurd hab (by decide)) (fun _ => ?_)
  refine wpAny_ite_split (fun _ => ?_) (fun hab => absurd (by decide +kernel) hab)
  refine wpAny_bind (wpAny_typeOf hT ?_)
  exact wpAny_pure h
end
end L2
set_option Elab.async false
set_option linter.all false
set_option maxRecDepth 100000
set_option maxHeartbeats 3200000
namespace L2
open PySem PySem.Spec PyProof.Rows
section
variable {prog : Program} {w : World} {A : Around} {E : Value → Shared → Prop} {s : Shared}
end
theorem Inv.drawn {X : Cx} {pins : List (Addr × Obj)} {σ : St} {H : Hp} {s : Shared} (I : Inv X pins σ H s) (d : Drawn) : Inv X pins σ H { s with drawn := d } :=
  ⟨I.ok, I.os, I.bare, I.base, I.loc, I.cell, I.free, I.freeC, I.pin, I.hok, I.len⟩
def tSortedSet (ta : TA) : TE := fun σ H Q => ta σ H fun vs H1 => ∃ z : Str, vs = [.str z] ∧ z.length < 3900 ∧ (∀ ds : List Nat, ds.Nodup → (∀ d ∈ ds, d ∈ z.cps.toList) → ds.length < 64) ∧
  ∀ (l : Addr) (ds : List Nat), H1 l = none → ds.Pairwise (· < ·) → (∀ c, c ∈ ds ↔ c ∈ z.cps.toList) → Q (.ref l) (upd H1 l (.lst ((ds.map sg).map V.str)))
end L2
set_option Elab.async false
set_option linter.all false
set_option maxRecDepth 100000
namespace L2
open PySem PySem.Spec PyProof.Rows
section
variable {X : Cx} {o e f : Expr} {to te tf : TE}
def tM2 (r : V → List V → Hp → VK → Prop) (to te tf : TE) : TE := fun σ H Q => to σ H fun x H1 => (∃ a, x = .str a) ∧ te σ H1 fun y H2 => tf σ H2 fun z H3 => r x [y, z] H3 Q
open Builtin Builtin.Str in
def rIndexS3 : V → List V → Hp → VK → Prop := fun x xs H Q => ∃ (z : Str) (c k : Nat) (i : Int), x = .str z ∧ xs = [.str (sg c), .int i] ∧ 0 ≤ i ∧ nxt z.cps.toList i.toNat (sg c) = some k ∧ Q (.int (k : Nat)) H
end
theorem nxt_idx (c : Nat) (cs : List Nat) (i : Nat) : nxt cs i (sg c) = (idx c (cs.drop i)).map (i + ·) := by
  unfold nxt
  generalize cs.drop i = l
  induction l generalizing i with
  | nil => rfl
  | cons x xs ih =>
    show (if sg x = sg c then some i else nxtL xs (i + 1) (sg c)) = (if x = c then some 0 else (idx c xs).map (· + 1)).map (i + ·)
    by_cases h : x = c
    · rw [if_pos (by rw [h]), if_pos h]; rfl
    · rw [if_neg (fun z => h (sg_inj' z)), if_neg h, ih (i + 1), Option.map_map]
      congr 1
      funext j
      show i + 1 + j = i + (j + 1)
      omega
theorem nxt_mem {c : Nat} {cs : List Nat} {i : Nat} (h : c ∈ cs.drop i) : ∃ k, nxt cs i (sg c) = some k ∧ i ≤ k ∧ k < cs.length := by
  have h1 : (idx c (cs.drop i)).isSome = true := by rw [idx_in', decide_eq_true h]
  obtain ⟨j, hj⟩ := Option.isSome_iff_exists.mp h1
  have hl := idx_lt hj
  rw [List.length_drop] at hl
  exact ⟨i + j, by rw [nxt_idx, hj]; rfl, by omega, by omega⟩
where idx_in' {c : Nat} : ∀ {xs : List Nat}, (idx c xs).isSome = decide (c ∈ xs)
  | [] => by simp [idx]
  | x :: xs => by
    show (if x = c then some 0 else (idx c xs).map (· + 1)).isSome = _
    by_cases h : x = c
    · rw [if_pos h, h]; simp
    · rw [if_neg h, Option.isSome_map, idx_in']
      have h' : ¬ c = x := fun e => h e.symm
      simp [h']
def gF (f : List Nat → Int) (ys : List Nat) (d : Nat) : Int := oI f (aft d ys)
def ahF (f : List Nat → Int) (c : Nat) (ys : List Nat) : Int := sumTo (gF f ys) c
/-- the place of a row among all that are left -/
def pN : List Nat → List Nat → Int
  | _, [] => 0
  | xs, c :: cs => 1 + ahF mn c xs + match aft c xs with | some r => pN r cs | none => 0
def codeK : Key → Nat
  | .inr s => s.cps.toList.getD 0 0
  | .inl _ => 0
def spAhead (P : Addr) : Sp := fun vs H Q _ => ∃ (d m : Addr) (c p : Nat) (xs : List Nat) (f : List Nat → Int), vs = [.ref d, .ref m, .str (sg c)] ∧ H d = some (.dK (entK (xs.drop p) p)) ∧ H m = some (.lst (tabI (xs.length + 1) fun i => f (xs.drop i))) ∧ p ≤ xs.length ∧ H P = some (.ext (TabP P)) ∧ Q (.int (ahF f c (xs.drop p))) H
def spPlaceOf (K : PySem.W.Frag) (P1 P2 : Addr) : Sp := fun vs H Q _ => ∃ z y : Str, vs = [.str z, .str y] ∧ z.length ≤ 200 ∧ y.length ≤ 200 ∧ IsRow y ∧ (fsts z.cps.toList 0 y.cps.toList).isSome = true ∧ H P1 = some (.ext (TabP P1)) ∧ H P2 = some (.ext (TabP P2)) ∧ ∀ H', Same H H' → Q (.int (pN z.cps.toList y.cps.toList)) H'
def spCountsL : Sp := fun vs H Q _ => ∃ z : Str, vs = [.str z] ∧ IsRow z ∧ z.length ≤ 200 ∧ ∀ (m : Addr) (H' : Hp), Same H H' → H m = none → H' m = some (.lst (tabI (z.cps.toList.length + 1) fun i => mn (z.cps.toList.drop i))) → Q (.ref m) H'
def spWide : Sp := fun vs H Q _ => ∃ (p : Addr) (m : Int), vs = [.ref p, .int m] ∧ HandAt H p ∧ 0 < m ∧ ∀ (v : Int) (H' : Hp), 0 ≤ v → v < m → HandAt H' p → Kp p H H' → Q (.int v) H'
def spLeftDue : Sp := fun vs H Q _ => ∃ (z : Str) (m : Addr) (i : Int), vs = [.str z, .ref m, .int i] ∧ IsRow z ∧ z.length ≤ 200 ∧ H m = some (.lst (tabI (z.cps.toList.length + 1) fun i => mn (z.cps.toList.drop i))) ∧ 0 ≤ i ∧ i < mn z.cps.toList ∧
  ∀ (y : Str) (H' : Hp), IsRow y → y.length ≤ z.length → (fsts z.cps.toList 0 y.cps.toList).isSome = true → pN z.cps.toList y.cps.toList = i → Same H H' → Q (.str y) H'
def spDueN : Sp := fun vs H Q _ => ∃ (z : Str) (m : Addr) (y : Str), vs = [.str z, .ref m, .str y] ∧ IsRow z ∧ z.length ≤ 200 ∧ H m = some (.lst (tabI (z.cps.toList.length + 1) fun i => mn (z.cps.toList.drop i))) ∧ (fsts z.cps.toList 0 y.cps.toList).isSome = true ∧ ∀ H', Same H H' → Q (.int (pN z.cps.toList y.cps.toList)) H'
end L2
set_option Elab.async false
set_option linter.all false
set_option maxRecDepth 100000
namespace L2
open PySem PySem.Spec PyProof.Rows
theorem greedy {y : Nat} {ys : List Nat} : ∀ {l : List Nat}, (y :: ys).Sublist l → ∃ j, idx y l = some j ∧ ys.Sublist (l.drop (j + 1))
  | [], h => by cases h
  | x :: l, h => by
    have ix : idx y (x :: l) = if x = y then some 0 else (idx y l).map (· + 1) := rfl
    by_cases e : x = y
    · refine ⟨0, by rw [ix, if_pos e], ?_⟩
      show ys.Sublist l
      cases h with
      | cons _ h => exact (List.sublist_cons_self y ys).trans h
      | cons_cons _ h => exact h
    · cases h with
      | cons _ h =>
        obtain ⟨j, hj, hs⟩ := greedy h
        exact ⟨j + 1, by rw [ix, if_neg e, hj]; rfl, hs⟩
      | cons_cons _ h => exact absurd rfl e
theorem fsts_cons (xs : List Nat) (i y : Nat) (ys : List Nat) : fsts xs i (y :: ys) = match nxt xs i (sg y) with | none => none | some k => (fsts xs (k + 1) ys).map (k :: ·) := rfl
theorem fsts_sub : ∀ (ys xs : List Nat) (i : Nat), ys.Sublist (xs.drop i) → (fsts xs i ys).isSome = true
  | [], xs, i, _ => rfl
  | y :: ys, xs, i, h => by
    obtain ⟨j, hj, hs⟩ := greedy h
    have hn : nxt xs i (sg y) = some (i + j) := by rw [nxt_idx, hj]; rfl
    rw [fsts_cons, hn]
    show ((fsts xs (i + j + 1) ys).map _).isSome = true
    rw [Option.isSome_map]
    refine fsts_sub ys xs (i + j + 1) ?_
    have e : xs.drop (i + j + 1) = (xs.drop i).drop (j + 1) := by rw [List.drop_drop]; rfl
    rw [e]; exact hs
theorem sub_fsts : ∀ (ys xs : List Nat) (i : Nat), (fsts xs i ys).isSome = true → ys.Sublist (xs.drop i)
  | [], xs, i, _ => List.nil_sublist _
  | y :: ys, xs, i, h => by
    rw [fsts_cons] at h
    cases hn : nxt xs i (sg y) with
    | none => rw [hn] at h; cases h
    | some k =>
      rw [hn] at h
      have h' : ((fsts xs (k + 1) ys).map (k :: ·)).isSome = true := h
      rw [Option.isSome_map] at h'
      have ih := sub_fsts ys xs (k + 1) h'
      have hn' := hn
      rw [nxt_idx] at hn'
      obtain ⟨j, hj, rfl⟩ := Option.map_eq_some_iff.mp hn'
      have hsp : ∀ (l : List Nat) (j : Nat), idx y l = some j → (y :: l.drop (j + 1)).Sublist l := by
        intro l
        induction l with
        | nil => intro j h; cases h
        | cons x l ihl =>
          intro j h
          have h2 : (if x = y then some 0 else (idx y l).map (· + 1)) = some j := h
          by_cases e : x = y
          · rw [if_pos e] at h2; cases h2; rw [e]; exact List.Sublist.refl _
          · rw [if_neg e] at h2
            obtain ⟨j', hj', rfl⟩ := Option.map_eq_some_iff.mp h2
            exact (ihl j' hj').cons _
      have h1 := hsp (xs.drop i) j hj
      have e : (xs.drop i).drop (j + 1) = xs.drop (i + j + 1) := by rw [List.drop_drop]; rfl
      rw [e] at h1
      exact (ih.cons_cons y).trans h1
def spPartS : Sp := fun vs H Q _ => ∃ (p : Addr) (z : Str), vs = [.ref p, .str z] ∧ HandAt H p ∧ IsRow z ∧ z.length ≤ 200 ∧ ∀ (x : Str) (H' : Hp), IsRow x → x.cps.toList.Sublist z.cps.toList → HandAt H' p → Kp p H H' → Q (.str x) H'
def spWholeE : Sp := fun vs H Q _ => ∃ a b : Int, vs = [.int a, .int b] ∧ Q (.bl (decide (a = b))) H
end L2
namespace L2
end L2
namespace L2
end L2
namespace L2
open PySem
end L2
set_option Elab.async false
set_option linter.all false
set_option maxRecDepth 100000
namespace Lv
open PySem L2
def top (i : Nat) : Stmt := PySem.Challenge.pw_leavings_k04_whole_rows_left.main.body.getD i (.Pass ⟨0, 0, 0, 0⟩)
section
variable {P : Program} {w : World} {K : PySem.W.Frag} {mg : Str → Option Value} {base : Heap} {f : Addr} {fd : FuncData}
abbrev sLawDraw : Stmt := top 7
def nLawDraw : List Str := ["hand", "limit", "got"]
theorem scLawDraw : FnScope nLawDraw ["hand", "limit"] (defScope sLawDraw) := ⟨rfl, rfl, rfl, by decide +kernel, rfl, by decide +kernel, by decide +kernel⟩
theorem ok_draw (F : Fun K "_law_draw" "_law_draw" sLawDraw f fd) : FnOk P w K mg base CX0 1 f fd ["hand", "limit"] spDraw := by
  refine F.ok scLawDraw (fun vs H Q E h => ?_) (fun cdv A outer s H vs Q E hr h => ?_)
  · obtain ⟨p, L, rfl, _⟩ := h
    rfl
  obtain ⟨p, L, rfl, ⟨d, r, hp, hd, hr0, hr1⟩, hL, hL2, q⟩ := h
  refine ⟨_, (pss_cons (ps_if (pt_cmpR op_gt (pe_ix ix_list (pv 0) pe_int (fun _ _ => rfl)) pe_int (nomark _)) (pss_cons (ps_set (i := 2) scLawDraw.nd rfl (Or.inl rfl) (pe_op op_mod (pe_ix ix_list (pv 0) pe_int (fun _ _ => rfl)) (pv 1)))
    (pss_cons (ps_asg (pe_op op_fdiv (pe_ix ix_list (pv 0) pe_int (fun _ _ => rfl)) (pv 1)) (pg_sub (pv 0) pe_int set_list))
    (pss_one (ps_ret (pv 2))))) pss_nil)
    (pss_cons (ps_asg (pe_op op_mod (pe_op op_add (pe_op op_add (pe_op op_mul (pe_ix ix_list (pv 0) pe_int (fun _ _ => rfl)) (pe_ix ix_list (pv 0) pe_int (fun _ _ => rfl))) (pe_op op_mul pe_int (pe_ix ix_list (pv 0) pe_int (fun _ _ => rfl)))) pe_int) pe_int) (pg_sub (pv 0) pe_int set_list))
    (pss_one (ps_ret (pe_op op_mod (pe_op op_fdiv (pe_ix ix_list (pv 0) pe_int (fun _ _ => rfl)) pe_int) (pv 1)))))), ?_⟩
  refine ⟨_, rfl, p, _, _, _, rfl, rfl, SqL.of hp, rfl, _, _, rfl, rfl, _, rfl, ?_⟩
  refine ite2 (fun c => ?_) (fun c => ?_)
  · have c' : 0 < d := of_decide_eq_true c
    refine ⟨_, rfl, p, _, _, _, rfl, rfl, SqL.of hp, rfl, _, rfl, _, _, rfl, rfl, hL, ?_⟩
    refine ⟨_, rfl, p, _, _, _, rfl, rfl, SqL.of hp, rfl, _, rfl, _, _, rfl, rfl, ⟨hL, hL2⟩, _, rfl, p, _, _, 0, rfl, rfl, hp, rfl, _, rfl, ?_⟩
    exact q _ _ (Int.emod_nonneg _ (by omega)) (Int.emod_lt_of_pos _ hL) ⟨d / L, r, upd_same, Int.ediv_nonneg hd (by omega), hr0, hr1⟩ (Kp.refl _ _).set
  · refine ⟨_, rfl, p, _, _, _, rfl, rfl, SqL.of hp, rfl, _, rfl, p, _, _, _, rfl, rfl, SqL.of hp, rfl, _, _, rfl, rfl, .inl ⟨by omega, by omega⟩, ?_⟩
    refine ⟨_, rfl, p, _, _, _, rfl, rfl, SqL.of hp, rfl, _, _, rfl, rfl, .inl ⟨by decide, by decide⟩, _, _, rfl, rfl, _, _, rfl, rfl, _, _, rfl, rfl, by show (0 : Int) < 2147483587; decide, ?_⟩
    refine ⟨_, rfl, p, _, _, 1, rfl, rfl, hp, rfl, _, rfl, p, _, _, _, rfl, rfl, SqL.of upd_same, rfl, _, _, rfl, rfl, ⟨by decide, by decide⟩, _, rfl, _, _, rfl, rfl, hL, ?_⟩
    exact q _ _ (Int.emod_nonneg _ (by omega)) (Int.emod_lt_of_pos _ hL) ⟨d, _, upd_same, hd, Int.emod_nonneg _ (by decide), Int.emod_lt_of_pos _ (by decide)⟩ (Kp.refl _ _).set
abbrev sLawHand : Stmt := top 6
def nLawHand : List Str := ["cell", "k", "digits"]
theorem scLawHand : FnScope nLawHand ["cell", "k"] (defScope sLawHand) := ⟨rfl, rfl, rfl, by decide +kernel, rfl, by decide +kernel, by decide +kernel⟩
theorem ok_hand (F : Fun K "_law_hand" "_law_hand" sLawHand f fd) : FnOk P w K mg base CX0 1 f fd ["cell", "k"] spHand := by
  refine F.ok scLawHand (fun vs H Q E h => ?_) (fun cdv A outer s H vs Q E hr h => ?_)
  · obtain ⟨c, k, rfl, _⟩ := h
    rfl
  obtain ⟨cell, k, rfl, q⟩ := h
  refine ⟨_, (pss_cons (ps_set (i := 2) scLawHand.nd rfl (Or.inl rfl) pe_int)
    (pss_cons (ps_cut (ps_if (pt_cmpR op_ge (pv 0) (pe_op op_pow pe_int pe_int) (nomark _)) (pss_one (ps_set (i := 2) scLawHand.nd rfl (Or.inl rfl) (pv 0))) pss_nil))
    (pss_one (ps_ret (pe_lst (pa_cons (pv 2) (pa_cons (pe_op op_mod (pe_op op_mul (pe_op op_add (pe_op op_add (pe_op op_mod (pv 0) pe_int) (pe_op op_mul pe_int (pv 1))) pe_int) pe_int) pe_int) pa_nil))))))), ?_⟩
  refine ⟨fun σ' H' => H' = H ∧ ∃ dg : Int, 0 ≤ dg ∧ σ' = [some (V.int cell), some (V.int k), some (V.int dg)], ?_, ?_⟩
  · refine ⟨_, rfl, _, _, rfl, rfl, ⟨by decide, by decide, by decide⟩, _, _, rfl, rfl, _, rfl, ?_⟩
    refine ite2 (fun c => ?_) (fun c => ?_)
    · have c' : (10 : Int) ^ 18 ≤ cell := of_decide_eq_true c
      exact ⟨_, rfl, rfl, cell, by have : (0 : Int) ≤ 10 ^ 18 := by decide
                                   omega, rfl⟩
    · exact ⟨rfl, 0, Int.le_refl 0, rfl⟩
  · rintro σ' H' ⟨rfl, dg, hdg, rfl⟩
    refine ⟨_, rfl, _, rfl, _, _, rfl, rfl, (by show (0 : Int) < 2147483587; decide), _, rfl, _, _, rfl, rfl, .inl ⟨by decide, by decide⟩, _, _, rfl, rfl, _, _, rfl, rfl, _, _, rfl, rfl, .inr ⟨by decide, by decide⟩, _, _, rfl, rfl, (by show (0 : Int) < 2147483587; decide), (by show 2 ≤ sizeLine; decide), fun p hp => ?_⟩
    exact q p _ hp ⟨dg, _, upd_same, hdg, Int.emod_nonneg _ (by decide), Int.emod_lt_of_pos _ (by decide)⟩ (same_new hp _)
abbrev sLawGreat : Stmt := top 9
def nLawGreat : List Str := ["script"]
theorem scLawGreat : FnScope nLawGreat ["script"] (defScope sLawGreat) := ⟨rfl, rfl, rfl, by decide +kernel, rfl, by decide +kernel, by decide +kernel⟩
theorem ok_great (T : Glb mg) (F : Fun K "_law_great" "_law_great" sLawGreat f fd) : FnOk P w K mg base CX0 1 f fd ["script"] (spGreat K) := by
  refine F.ok scLawGreat (fun vs H Q E h => ?_) (fun cdv A outer s H vs Q E hr h => ?_)
  · obtain ⟨a, ns, rfl, _⟩ := h
    rfl
  obtain ⟨a, ns, rfl, hS, h63, q⟩ := h
  refine ⟨_, (pss_one (ps_ret (pe_cmpR op_eq (pe_op op_mod (pe_op op_fdiv (pe_callB (cr_sum rfl) rfl T.m_sum (by decide +kernel) (pa_cons (pv 0) pa_nil)) pe_int) pe_int) pe_int (nomark _)))), ?_⟩
  refine ⟨_, rfl, a, ns, rfl, hS, _, _, rfl, rfl, ⟨by decide, by decide⟩, _, _, rfl, rfl, by show (0 : Int) < 8; decide, rfl, ?_⟩
  exact q _
abbrev sLawCells : Stmt := top 8
def nLawCells : List Str := ["script", "many"]
theorem scLawCells : FnScope nLawCells ["script", "many"] (defScope sLawCells) := ⟨rfl, rfl, rfl, by decide +kernel, rfl, by decide +kernel, by decide +kernel⟩
theorem ok_cells (T : Glb mg) (F : Fun K "_law_cells" "_law_cells" sLawCells f fd) : FnOk P w K mg base CX0 1 f fd ["script", "many"] (spCells K) := by
  refine F.ok scLawCells (fun vs H Q E h => ?_) (fun cdv A outer s H vs Q E hr h => ?_)
  · obtain ⟨a, ns, m, rfl, _⟩ := h
    rfl
  obtain ⟨a, ns, m, rfl, hS, h63, hm, q⟩ := h
  refine ⟨_, (pss_one (ps_ret (pe_listEnum rfl rfl T.m_list rfl T.m_enumerate (pa_cons (pe_op op_cat (pe_slice sl_list (pv 0) po_none (po_some (pv 1))) (pe_op op_rep (pe_lst (pa_cons pe_int pa_nil)) (pe_callTy call_int1 rfl T.m_int (by decide +kernel) (pa_cons (pe_cmpR (op_eqD hr.units) (pv 0) (pe_lst pa_nil) (nomark _)) pa_nil)))) pa_nil)))), ?_⟩
  refine ⟨_, rfl, _, rfl, _, rfl, a, _, rfl, hS, fun p1 hp1 => ?_⟩
  have s1 := same_new (o := .lst (cutV (ns.map V.int) none (some m))) hp1
  refine ⟨(by show 1 ≤ sizeLine; decide), fun p2 hp2 => ?_⟩
  have s2 := same_new (o := .lst [V.int 0]) hp2
  refine ⟨_, rfl, (by show 0 ≤ sizeLine; decide), fun p3 hp3 => ?_⟩
  have s3 := same_new (o := .lst []) hp3
  refine ⟨_, _, Dp.ints (s3.seq (s2.seq (s1.seq hS))), Dp.ints (ns := []) (SqL.of upd_same), shaped_ints _, shaped_ints [], .inr ⟨_, rfl, ?_⟩⟩
  rw [eqv_list_ints]
  generalize hb : (if decide (ns = []) = true then (1 : Int) else 0) = b
  have hb2 : b.toNat ≤ 1 ∧ 0 ≤ b ∧ b ≤ 1 ∧ b = (b.toNat : Int) := by rw [← hb]; split <;> decide
  refine ⟨p2, b, _, rfl, rfl, by rw [upd_ne (ne_of_none upd_same hp3)]; exact upd_same, by omega, by omega, ?_, fun p4 hp4 => ?_⟩
  · have : ([V.int 0] : List V).length * b.toNat ≤ 1 := by show 1 * b.toNat ≤ 1; omega
    exact Nat.le_trans this (by decide)
  have h1 : (upd (upd (upd H p1 (.lst (cutV (ns.map V.int) none (some m)))) p2 (.lst [V.int 0])) p3 (.lst [])) p1 = some (.lst (cutV (ns.map V.int) none (some m))) := s3 _ _ (s2 _ _ upd_same)
  have s4 := same_new (o := .lst (List.replicate b.toNat [V.int 0]).flatten) hp4
  have el : (List.replicate b.toNat [V.int 0]).flatten = (List.replicate b.toNat (0 : Int)).map V.int := by
    have : b.toNat = 0 ∨ b.toNat = 1 := by omega
    rcases this with e | e <;> rw [e] <;> rfl
  have cl : (cutV (ns.map V.int) none (some m)).length ≤ 63 := Nat.le_trans (cutV_length _ _ _) (by rw [List.length_map]; exact h63)
  refine ⟨p1, p4, _, _, rfl, rfl, s4 _ _ h1, upd_same, ?_, fun p5 hp5 => ?_⟩
  · rw [el, List.length_map, List.length_replicate]
    exact Nat.le_trans (by omega : _ ≤ 64) (by decide)
  have s5 := same_new (o := .lst (cutV (ns.map V.int) none (some m) ++ (List.replicate b.toNat [V.int 0]).flatten)) hp5
  have ex : cutV (ns.map V.int) none (some m) ++ (List.replicate b.toNat [V.int 0]).flatten = (((ns.drop (HT.sIx ns.length 0 none)).take (HT.sIx ns.length ns.length (some m) - HT.sIx ns.length 0 none)) ++ List.replicate b.toNat 0).map V.int := by
    rw [map_cut, el, List.map_append]
  refine ⟨p5, _, rfl, SqL.of upd_same, fun l ts H' hl hts hlen hs hl' htt => ?_⟩
  have S : Same H H' := s1.trans (s2.trans (s3.trans (s4.trans (s5.trans hs))))
  refine q l ts H' S ?_ hl' ?_ fun j t hj => ?_
  · exact s1.free (s2.free (s3.free (s4.free (s5.free hl))))
  · rw [hlen, List.length_append, el, List.length_map, List.length_replicate]; omega
  · obtain ⟨x, hx, ht⟩ := htt j t hj
    rw [ex, List.getElem?_map] at hx
    obtain ⟨c, _, rfl⟩ := Option.map_eq_some_iff.mp hx
    exact ⟨c, ht⟩
end
end Lv
set_option Elab.async false
set_option linter.all false
set_option maxRecDepth 100000
set_option maxHeartbeats 4000000
namespace Lv
open PySem L2
section
variable {P : Program} {w : World} {K : PySem.W.Frag} {mg : Str → Option Value} {base : Heap} {f : Addr} {fd : FuncData}
abbrev sLawSize : Stmt := top 11
def nLawSize : List Str := ["hand", "most", "long"]
theorem scLawSize : FnScope nLawSize ["hand", "most", "long"] (defScope sLawSize) := ⟨rfl, rfl, rfl, by decide +kernel, rfl, by decide +kernel, by decide +kernel⟩
theorem ok_size (c_law_draw : Callee P w K mg base 1 "_law_draw" ["hand", "limit"] spDraw) (F : Fun K "_law_size" "_law_size" sLawSize f fd) : FnOk P w K mg base CX0 2 f fd ["hand", "most", "long"] spSize := by
  refine F.ok scLawSize (fun vs H Q E h => ?_) (fun cdv A outer s H vs Q E hr h => ?_)
  · obtain ⟨p, m, b, rfl, _⟩ := h
    rfl
  obtain ⟨p, m, b, rfl, hH, hm0, hm1, q⟩ := h
  refine ⟨_, (pss_cons (ps_if (pt_val (pv 2)) (pss_one (ps_ret (pe_ix ix_list (pe_lst (pa_cons (pe_op op_add pe_int (pe_callC c_law_draw hr rfl (pa_cons (pv 0) (pa_cons pe_int pa_nil)))) (pa_cons (pe_op op_add pe_int (pe_callC c_law_draw hr rfl (pa_cons (pv 0) (pa_cons pe_int pa_nil)))) pa_nil))) (pe_callC c_law_draw hr rfl (pa_cons (pv 0) (pa_cons pe_int pa_nil))) (fun _ _ => rfl)))) pss_nil)
    (pss_one (ps_ret (pe_callC c_law_draw hr rfl (pa_cons (pv 0) (pa_cons (pe_ix ix_list (pe_lst (pa_cons pe_int (pa_cons (pe_op op_add (pv 1) pe_int) pa_nil))) (pe_callC c_law_draw hr rfl (pa_cons (pv 0) (pa_cons pe_int pa_nil))) (fun _ _ => rfl)) pa_nil)))))), ?_⟩
  refine ⟨_, rfl, b, rfl, ?_⟩
  cases b with
  | true =>
    refine iteT ?_
    refine ⟨_, rfl, p, 61, rfl, hH, by decide, by decide, fun v1 H1 a1 b1 hH1 k1 => ?_⟩
    refine ⟨_, _, rfl, rfl, _, rfl, p, 7, rfl, hH1, by decide, by decide, fun v2 H2 a2 b2 hH2 k2 => ?_⟩
    refine ⟨_, _, rfl, rfl, (by show 2 ≤ sizeLine; decide), fun l hl => ?_⟩
    refine ⟨_, rfl, p, 2, rfl, hH2.new hl, by decide, by decide, fun v3 H3 a3 b3 hH3 k3 => ?_⟩
    obtain ⟨x, hx, _, hx2⟩ := at_in (xs := [V.int (20 + v1), V.int (74 + v2)]) a3 b3
    refine ⟨l, _, _, _, rfl, rfl, SqL.of (k3 _ _ upd_same (hH2.ne hl)), hx2, ?_⟩
    have hk : Kp p H H3 := (k1.trans k2).trans (((Kp.refl p H2).new hl).trans k3)
    simp only [List.mem_cons, List.not_mem_nil, or_false] at hx
    rcases hx with rfl | rfl
    · exact q _ H3 (by omega) (by omega) hH3 hk
    · exact q _ H3 (by omega) (by omega) hH3 hk
  | false =>
    refine iteF ?_
    refine ⟨_, rfl, _, rfl, _, _, rfl, rfl, (by show 2 ≤ sizeLine; decide), fun l hl => ?_⟩
    refine ⟨_, rfl, p, 2, rfl, hH.new hl, by decide, by decide, fun v3 H3 a3 b3 hH3 k3 => ?_⟩
    obtain ⟨x, hx, _, hx2⟩ := at_in (xs := [V.int 8, V.int (m + 1)]) a3 b3
    refine ⟨l, _, _, _, rfl, rfl, SqL.of (k3 _ _ upd_same (hH.ne hl)), hx2, ?_⟩
    have hk : Kp p H H3 := ((Kp.refl p H).new hl).trans k3
    simp only [List.mem_cons, List.not_mem_nil, or_false] at hx
    rcases hx with rfl | rfl
    · exact ⟨p, 8, rfl, hH3, by decide, by decide, fun v4 H4 a4 b4 hH4 k4 => q _ H4 a4 (by omega) hH4 (hk.trans k4)⟩
    · exact ⟨p, m + 1, rfl, hH3, by omega, by omega, fun v4 H4 a4 b4 hH4 k4 => q _ H4 a4 (by omega) hH4 (hk.trans k4)⟩
abbrev sLawRow : Stmt := top 10
def nLawRow : List Str := ["hand", "many", "letters", "wide", "base", "kind", "block", "row", "k"]
theorem scLawRow : FnScope nLawRow ["hand", "many"] (defScope sLawRow) := ⟨rfl, rfl, rfl, by decide +kernel, rfl, by decide +kernel, by decide +kernel⟩
theorem abc_row : IsRow (Str.ofString "abcdefghijklmnopqrstuvwxyz") ∧ (Str.ofString "abcdefghijklmnopqrstuvwxyz").length = 26 := by
  constructor
  · intro c hc
    have e : (Str.ofString "abcdefghijklmnopqrstuvwxyz").cps.toList = (List.range 26).map (· + 97) := by decide +kernel
    rw [e] at hc
    obtain ⟨k, hk, rfl⟩ := List.mem_map.mp hc
    have := List.mem_range.mp hk
    omega
  · decide +kernel
theorem ok_row (T : Glb mg) (c_law_draw : Callee P w K mg base 1 "_law_draw" ["hand", "limit"] spDraw) (F : Fun K "_law_row" "_law_row" sLawRow f fd) : FnOk P w K mg base CX0 2 f fd ["hand", "many"] spRow := by
  refine F.ok scLawRow (fun vs H Q E h => ?_) (fun cdv A outer s H vs Q E hr h => ?_)
  · obtain ⟨p, n, rfl, _⟩ := h
    rfl
  obtain ⟨p, n, rfl, hH, hn0, hn1, q⟩ := h
  refine ⟨_, (pss_cons (ps_set (i := 2) scLawRow.nd rfl (Or.inr rfl) pe_str)
    (pss_cons (ps_set (i := 3) scLawRow.nd rfl (Or.inr rfl) (pe_ix ix_list (pe_lst (pa_cons pe_int (pa_cons pe_int (pa_cons pe_int (pa_cons pe_int (pa_cons pe_int (pa_cons pe_int pa_nil))))))) (pe_callC c_law_draw hr rfl (pa_cons (pv 0) (pa_cons pe_int pa_nil))) (fun _ _ => rfl)))
    (pss_cons (ps_set (i := 4) scLawRow.nd rfl (Or.inr rfl) (pe_callC c_law_draw hr rfl (pa_cons (pv 0) (pa_cons (pe_op op_sub pe_int (pv 3)) pa_nil))))
    (pss_cons (ps_set (i := 5) scLawRow.nd rfl (Or.inl rfl) (pe_callC c_law_draw hr rfl (pa_cons (pv 0) (pa_cons pe_int pa_nil))))
    (pss_cons (ps_set (i := 6) scLawRow.nd rfl (Or.inl rfl) (pe_op op_add pe_int (pe_callC c_law_draw hr rfl (pa_cons (pv 0) (pa_cons pe_int pa_nil)))))
    (pss_cons (ps_set (i := 7) scLawRow.nd rfl (Or.inl rfl) (pe_join pe_str (pe_lc (own := [("k", 8)]) (g := gName 8) (by rfl) scLawRow.nd (pi_range1 rfl T.m_range (pa_cons (pv 1) pa_nil)) (blkOk_by (own := [("k", 8)]) (N := nLawRow) (sc := defScope sLawRow) (by decide +kernel)) (fun _ _ _ _ _ => pg_name (i := 8) scLawRow.nd rfl (Or.inl rfl)) (fun _ _ _ _ _ => pts_nil) (fun _ _ _ _ _ => (pe_ix ix_str (pv 2) (pe_op op_add (pv 4) (pe_callC c_law_draw hr rfl (pa_cons (pv 0) (pa_cons (pv 3) pa_nil)))) (fun _ _ => rfl))))))
    (pss_cons (ps_cut (ps_if (pt_cmpR op_eq (pv 5) pe_int (nomark _)) (pss_one (ps_set (i := 7) scLawRow.nd rfl (Or.inl rfl) (pe_slice sl_str (pe_op op_mulS (pe_slice sl_str (pv 7) po_none (po_some (pv 6))) (pv 1)) po_none (po_some (pv 1))))) pss_nil))
    (pss_cons (ps_cut (ps_if (pt_cmpR op_eq (pv 5) pe_int (nomark _)) (pss_one (ps_set (i := 7) scLawRow.nd rfl (Or.inl rfl) (pe_op op_add_str (pe_slice sl_str (pv 7) po_none (po_some (pe_op op_fdiv (pe_op op_add (pv 1) pe_int) pe_int))) (pe_revS (pe_slice sl_str (pv 7) po_none (po_some (pe_op op_fdiv (pv 1) pe_int))))))) pss_nil))
    (pss_one (ps_ret (pv 7))))))))))), ?_⟩
  -- wide
  refine ⟨(by show 6 ≤ sizeLine; decide), fun l hl => ?_⟩
  refine ⟨_, rfl, p, 6, rfl, hH.new hl, by decide, by decide, fun v1 H1 a1 b1 hH1 k1 => ?_⟩
  obtain ⟨x, hx, _, hx2⟩ := at_in (xs := [V.int 1, V.int 2, V.int 2, V.int 3, V.int 5, V.int 26]) a1 b1
  obtain ⟨wide, rfl, hw0, hw1⟩ : ∃ wd : Int, x = .int wd ∧ 1 ≤ wd ∧ wd ≤ 26 := by
    simp only [List.mem_cons, List.not_mem_nil, or_false] at hx
    rcases hx with rfl | rfl | rfl | rfl | rfl | rfl <;> exact ⟨_, rfl, by decide, by decide⟩
  refine ⟨l, _, _, _, rfl, rfl, SqL.of (k1 _ _ upd_same (hH.ne hl)), hx2, ?_⟩
  -- base, kind, block
  refine ⟨_, rfl, _, rfl, _, _, rfl, rfl, p, 27 - wide, rfl, hH1, by omega, by omega, fun bs H2 a2 b2 hH2 k2 => ?_⟩
  refine ⟨_, rfl, p, 6, rfl, hH2, by decide, by decide, fun kind H3 a3 b3 hH3 k3 => ?_⟩
  refine ⟨_, rfl, p, 6, rfl, hH3, by decide, by decide, fun bk H4 a4 b4 hH4 k4 => ?_⟩
  refine ⟨_, _, rfl, rfl, ?_⟩
  have kH4 : Kp p H H4 := ((Kp.refl p H).new hl).trans (k1.trans (k2.trans (k3.trans k4)))
  -- the letters
  refine ⟨⟨_, rfl⟩, _, rfl, n, rfl, by omega, by omega, fun D hD => ?_⟩
  obtain ⟨abcR, abcL⟩ := abc_row
  have hHD : H D = none := kH4.free hH4 hD
  refine lc_range (lo := 0) (n := n.toNat) (fun i H5 => HandAt H5 p ∧ Kp p H H5 ∧ D ≠ p ∧ ∃ cs : List Nat, cs.length = i ∧ (∀ c ∈ cs, 97 ≤ c ∧ c ≤ 122) ∧ H5 D = some (.lst ((cs.map sg).map V.str))) ?_ ?_ ?_
  · exact ⟨hH4.new hD, kH4.new hD, hH4.ne hD, [], rfl, (fun _ h => nomatch h), upd_same⟩
  · rintro i H5 hi ⟨hH5, k5, hDp, cs, hcl, hcr, hcD⟩
    refine ⟨rfl, ?_⟩
    refine ⟨_, rfl, _, rfl, _, rfl, _, rfl, p, wide, rfl, hH5, by omega, by omega, fun v6 H6 a6 b6 hH6 k6 => ?_⟩
    refine ⟨_, _, rfl, rfl, ?_⟩
    have hlen : bs + v6 < ((Str.ofString "abcdefghijklmnopqrstuvwxyz").cps.toList.length : Nat) := by
      rw [← len_cps, abcL]; omega
    obtain ⟨c, hc, _, hc2⟩ := at_in (xs := (Str.ofString "abcdefghijklmnopqrstuvwxyz").cps.toList) (v := bs + v6) (by omega) hlen
    refine ⟨_, _, c, rfl, rfl, by rw [abcL]; exact small80 (by decide), hc2, _, k6 _ _ hcD hDp, ?_, ?_⟩
    · rw [List.length_map, List.length_map, hcl]
      exact Nat.lt_of_lt_of_le hi (small80 (by omega))
    · refine ⟨hH6.off hDp, (k5.trans k6).over hHD, hDp, cs ++ [c], by rw [List.length_append, hcl]; rfl, fun d hd => ?_, ?_⟩
      · rcases List.mem_append.mp hd with hd | hd
        · exact hcr d hd
        · rw [List.mem_singleton.mp hd]; exact abcR c hc
      · rw [upd_same, List.map_append, List.map_append]; rfl
  · rintro H5 ⟨hH5, k5, hDp, cs, hcl, hcr, hcD⟩
    refine ⟨_, D, cs.map sg, rfl, rfl, .inl (SqL.of hcD), ?_, ?_⟩
    · rw [sum_sg]
      show cs.length + (cs.map sg).length * 0 ≤ 16777216
      omega
    generalize hx0 : Txt.join (Str.ofString "") (cs.map sg) = x0
    have ex0 : x0.cps.toList = cs := by rw [← hx0]; exact join_sg cs
    have rx0 : IsRow x0 := fun c hc => hcr c (by rw [← ex0]; exact hc)
    have lx0 : x0.length = n.toNat := by rw [len_cps, ex0, hcl]
    -- kind 0
    refine ⟨fun σ' H' => H' = H5 ∧ ∃ x1 : Str, IsRow x1 ∧ x1.length = n.toNat ∧ σ' = [some (.ref p), some (.int n), some (.str (Str.ofString "abcdefghijklmnopqrstuvwxyz")), some (.int wide), some (.int bs), some (.int kind), some (.int (1 + bk)), some (.str x1), none], ?_, ?_⟩
    · refine ⟨_, rfl, rfl, _, rfl, ?_⟩
      refine ite2 (fun c => ?_) (fun c => ?_)
      · have lc : (cutS x0 none (some (1 + bk))).length ≤ 6 := by
          rw [cut_to_len x0 (by omega)]; omega
        refine ⟨_, rfl, _, rfl, _, rfl, _, rfl, by rw [lx0]; exact small80 (by omega), _, rfl, _, _, rfl, rfl, by omega, by omega, ?_, _, rfl, _, rfl, _, rfl, ?_, ?_⟩
        · have : (cutS x0 none (some (1 + bk))).length * n.toNat ≤ 6 * 200 := Nat.mul_le_mul lc (by omega)
          omega
        · rw [mulS_length]
          have : n.toNat * (cutS x0 none (some (1 + bk))).length ≤ 200 * 6 := Nat.mul_le_mul (by omega) lc
          exact small80 (by omega)
        · refine ⟨rfl, _, ((rx0.cut _ _).mul _).cut _ _, ?_, rfl⟩
          rw [cut_to_len _ hn0, mulS_length, cut_to_len x0 (by omega), lx0]
          by_cases z : n.toNat = 0
          · rw [z]; simp
          · have : 1 ≤ min (1 + bk).toNat n.toNat := by omega
            have : n.toNat * 1 ≤ n.toNat * min (1 + bk).toNat n.toNat := Nat.mul_le_mul_left _ this
            omega
      · exact ⟨rfl, x0, rx0, lx0, rfl⟩
    · rintro σ' H' ⟨rfl, x1, rx1, lx1, rfl⟩
      refine ⟨fun σ' H'' => H'' = H' ∧ ∃ x2 : Str, IsRow x2 ∧ x2.length = n.toNat ∧ σ' = [some (.ref p), some (.int n), some (.str (Str.ofString "abcdefghijklmnopqrstuvwxyz")), some (.int wide), some (.int bs), some (.int kind), some (.int (1 + bk)), some (.str x2), none], ?_, ?_⟩
      · refine ⟨_, rfl, rfl, _, rfl, ?_⟩
        refine ite2 (fun c => ?_) (fun c => ?_)
        · have e1 : 0 ≤ (n + 1) / 2 := by omega
          have e2 : 0 ≤ n / 2 := by omega
          have l1 := cut_to_len x1 e1
          have l2 := cut_to_len x1 e2
          have sm : x1.length ≤ sizeLine := by rw [lx1]; exact small80 (by omega)
          refine ⟨_, rfl, _, rfl, _, _, rfl, rfl, _, _, rfl, rfl, ⟨by decide, by decide⟩, _, rfl, _, rfl, sm, _, rfl, _, rfl, _, _, rfl, rfl, ⟨by decide, by decide⟩, _, rfl, _, rfl, sm, _, rfl, ?_, _, _, rfl, rfl, ?_, ?_⟩
          · rw [l2]; exact Nat.le_trans (Nat.min_le_right _ _) sm
          · rw [revS_length, l1, l2]; exact small80 (by omega)
          · refine ⟨rfl, _, (rx1.cut _ _).app (rx1.cut _ _).rev, ?_, rfl⟩
            rw [len_cps, app_cps, List.length_append, ← len_cps, ← len_cps, revS_length, l1, l2, lx1]
            omega
        · exact ⟨rfl, x1, rx1, lx1, rfl⟩
      · rintro σ' H'' ⟨rfl, x2, rx2, lx2, rfl⟩
        refine ⟨_, rfl, ?_⟩
        exact q x2 _ rx2 (by rw [lx2]; omega) hH5 k5
end
end Lv
set_option Elab.async false
set_option linter.all false
set_option maxRecDepth 100000
set_option maxHeartbeats 8000000
namespace Lv
open PySem L2
section
variable {P : Program} {w : World} {K : PySem.W.Frag} {mg : Str → Option Value} {base : Heap} {f : Addr} {fd : FuncData}
abbrev sLawPart : Stmt := top 12
def nLawPart : List Str := ["hand", "row", "often", "letter"]
theorem scLawPart : FnScope nLawPart ["hand", "row"] (defScope sLawPart) := ⟨rfl, rfl, rfl, by decide +kernel, rfl, by decide +kernel, by decide +kernel⟩
theorem ok_part (T : Glb mg) (c_law_draw : Callee P w K mg base 1 "_law_draw" ["hand", "limit"] spDraw) (F : Fun K "_law_part" "_law_part" sLawPart f fd) : FnOk P w K mg base CX0 2 f fd ["hand", "row"] spPart := by
  refine F.ok scLawPart (fun vs H Q E h => ?_) (fun cdv A outer s H vs Q E hr h => ?_)
  · obtain ⟨p, z, rfl, _⟩ := h
    rfl
  obtain ⟨p, z, rfl, hH, rz, lz, q⟩ := h
  refine ⟨_, (pss_cons (ps_set (i := 2) scLawPart.nd rfl (Or.inr rfl) (pe_ix ix_list (pe_lst (pa_cons pe_int (pa_cons pe_int (pa_cons pe_int pa_nil)))) (pe_callC c_law_draw hr rfl (pa_cons (pv 0) (pa_cons pe_int pa_nil))) (fun _ _ => rfl)))
    (pss_one (ps_ret (pe_join pe_str (pe_lc (own := [("letter", 3)]) (g := gName 3) (by rfl) scLawPart.nd (pi_str (pv 1)) (blkOk_by (own := [("letter", 3)]) (N := nLawPart) (sc := defScope sLawPart) (by decide +kernel)) (fun _ _ _ _ _ => pg_name (i := 3) scLawPart.nd rfl (Or.inl rfl)) (fun _ _ _ _ _ => pts_one (pt_cmpR op_lt (pe_callC c_law_draw hr rfl (pa_cons (pv 0) (pa_cons pe_int pa_nil))) (pv 2) (nomark _))) (fun _ _ _ _ _ => (pv 3))))))), ?_⟩
  refine ⟨(by show 3 ≤ sizeLine; decide), fun l hl => ?_⟩
  refine ⟨_, rfl, p, 3, rfl, hH.new hl, by decide, by decide, fun v1 H1 a1 b1 hH1 k1 => ?_⟩
  obtain ⟨x, hx, _, hx2⟩ := at_in (xs := [V.int 1, V.int 3, V.int 5]) a1 b1
  obtain ⟨often, rfl⟩ : ∃ wd : Int, x = .int wd := by
    simp only [List.mem_cons, List.not_mem_nil, or_false] at hx
    rcases hx with rfl | rfl | rfl <;> exact ⟨_, rfl⟩
  refine ⟨l, _, _, _, rfl, rfl, SqL.of (k1 _ _ upd_same (hH.ne hl)), hx2, ?_⟩
  have kH1 : Kp p H H1 := ((Kp.refl p H).new hl).trans k1
  refine ⟨⟨_, rfl⟩, _, rfl, z, rfl, fun D hD => ?_⟩
  have hHD : H D = none := kH1.free hH1 hD
  refine lc_str (z := z) (fun i H5 => HandAt H5 p ∧ Kp p H H5 ∧ D ≠ p ∧ ∃ cs : List Nat, cs.length ≤ i ∧ (∀ c ∈ cs, 97 ≤ c ∧ c ≤ 122) ∧ H5 D = some (.lst ((cs.map sg).map V.str))) ?_ ?_ ?_
  · exact ⟨hH1.new hD, kH1.new hD, hH1.ne hD, [], Nat.le_refl _, (fun _ h => nomatch h), upd_same⟩
  · rintro i c H5 hc ⟨hH5, k5, hDp, cs, hcl, hcr, hcD⟩
    refine ⟨rfl, ?_⟩
    refine ⟨_, rfl, p, 6, rfl, hH5, by decide, by decide, fun v6 H6 a6 b6 hH6 k6 => ?_⟩
    refine ⟨_, rfl, _, _, rfl, rfl, _, rfl, ?_⟩
    have hi : i < z.length := by
      obtain ⟨h, _⟩ := List.getElem?_eq_some_iff.mp hc
      rw [len_cps]; exact h
    refine ite2 (fun _ => ?_) (fun _ => ?_)
    · refine ⟨_, rfl, _, k6 _ _ hcD hDp, ?_, ?_⟩
      · rw [List.length_map, List.length_map]
        exact Nat.lt_of_le_of_lt hcl (Nat.lt_of_lt_of_le hi (small80 (by omega)))
      · refine ⟨hH6.off hDp, (k5.trans k6).over hHD, hDp, cs ++ [c], by rw [List.length_append]; exact Nat.succ_le_succ hcl, fun d hd => ?_, ?_⟩
        · rcases List.mem_append.mp hd with hd | hd
          · exact hcr d hd
          · rw [List.mem_singleton.mp hd]; exact rz c (List.mem_of_getElem? hc)
        · rw [upd_same, List.map_append, List.map_append]; rfl
    · exact ⟨hH6, k5.trans k6, hDp, cs, Nat.le_succ_of_le hcl, hcr, k6 _ _ hcD hDp⟩
  · rintro H5 ⟨hH5, k5, hDp, cs, hcl, hcr, hcD⟩
    rw [← len_cps] at hcl
    refine ⟨_, D, cs.map sg, rfl, rfl, .inl (SqL.of hcD), ?_, ?_⟩
    · rw [sum_sg]
      show cs.length + (cs.map sg).length * 0 ≤ 16777216
      omega
    generalize hx0 : Txt.join (Str.ofString "") (cs.map sg) = x0
    have ex0 : x0.cps.toList = cs := by rw [← hx0]; exact join_sg cs
    exact q x0 H5 (fun c hc => hcr c (by rw [← ex0]; exact hc)) (by rw [len_cps, ex0]; exact hcl) hH5 k5
theorem ok_partS (T : Glb mg) (c_law_draw : Callee P w K mg base 1 "_law_draw" ["hand", "limit"] spDraw) (F : Fun K "_law_part" "_law_part" sLawPart f fd) : FnOk P w K mg base CX0 2 f fd ["hand", "row"] spPartS := by
  refine F.ok scLawPart (fun vs H Q E h => ?_) (fun cdv A outer s H vs Q E hr h => ?_)
  · obtain ⟨p, z, rfl, _⟩ := h
    rfl
  obtain ⟨p, z, rfl, hH, rz, lz, q⟩ := h
  have hu := hu_of hr
  refine' ⟨_, ?TT, ?RR⟩
  case TT =>
    refine' pss_cons ?x305 ?x306
    case x305 =>
     refine' ps_set (i := 2) scLawPart.nd rfl (Or.inr rfl) ?x307
     case x307 =>
      refine' pe_ix ix_list ?x308 ?x309 (fun _ _ => rfl)
      case x308 =>
       refine' pe_lst ?x310
       case x310 =>
        refine' pa_Const ?x311 ?x312
        case x311 =>
         exact pe_int
        case x312 =>
         refine' pa_Const ?x313 ?x314
         case x313 =>
          exact pe_int
         case x314 =>
          refine' pa_Const ?x315 ?x316
          case x315 =>
           exact pe_int
          case x316 =>
           exact pa_nil
      case x309 =>
       refine' pe_callC c_law_draw hr rfl ?x317
       case x317 =>
        refine' pa_Name (pv 0) ?x318
        case x318 =>
         refine' pa_Const ?x319 ?x320
         case x319 =>
          exact pe_int
         case x320 =>
          exact pa_nil
    case x306 =>
     refine' pss_one ?x321
     case x321 =>
      refine' ps_ret ?x322
      case x322 =>
       refine' pe_join ?x323 ?x324
       case x323 =>
        exact pe_str
       case x324 =>
        refine' pe_lc (own := [("letter", 3)]) (g := gName 3) (by rfl) scLawPart.nd ?x325 (blkOk_by (own := [("letter", 3)]) (N := nLawPart) (sc := defScope sLawPart) (by decide +kernel)) (fun _ _ _ _ _ => pg_name (i := 3) scLawPart.nd rfl (Or.inl rfl)) ?x326 (fun _ _ _ _ _ => (pv 3))
        case x325 =>
         exact (pi_str (pv 1))
        case x326 =>
         intro _ _ _ _ _
         exact pts_one (pt_cmpR op_lt (pe_callC c_law_draw hr rfl (by exact pa_Name (pv 0) (by exact pa_Const pe_int pa_nil))) (pv 2) (nomark _))
  case RR =>
    refine ⟨(by show 3 ≤ sizeLine; decide), fun l hl => ?_⟩
    refine ⟨_, rfl, p, 3, rfl, hH.new hl, by decide, by decide, fun v1 H1 a1 b1 hH1 k1 => ?_⟩
    obtain ⟨x, hx, _, hx2⟩ := at_in (xs := [V.int 1, V.int 3, V.int 5]) a1 b1
    obtain ⟨often, rfl⟩ : ∃ wd : Int, x = .int wd := by
      simp only [List.mem_cons, List.not_mem_nil, or_false] at hx
      rcases hx with rfl | rfl | rfl <;> exact ⟨_, rfl⟩
    refine ⟨l, _, _, _, rfl, rfl, SqL.of (k1 _ _ upd_same (hH.ne hl)), hx2, ?_⟩
    have kH1 : Kp p H H1 := ((Kp.refl p H).new hl).trans k1
    refine ⟨⟨_, rfl⟩, _, rfl, z, rfl, fun D hD => ?_⟩
    have hHD : H D = none := kH1.free hH1 hD
    refine lc_str (z := z) (fun i H5 => HandAt H5 p ∧ Kp p H H5 ∧ D ≠ p ∧ ∃ cs : List Nat, cs.Sublist (z.cps.toList.take i) ∧ H5 D = some (.lst ((cs.map sg).map V.str))) ?_ ?_ ?_
    · exact ⟨hH1.new hD, kH1.new hD, hH1.ne hD, [], List.nil_sublist _, upd_same⟩
    · rintro i c H5 hc ⟨hH5, k5, hDp, cs, hcl, hcD⟩
      refine ⟨rfl, ?_⟩
      refine ⟨_, rfl, p, 6, rfl, hH5, by decide, by decide, fun v6 H6 a6 b6 hH6 k6 => ?_⟩
      refine ⟨_, rfl, _, _, rfl, rfl, _, rfl, ?_⟩
      have hll : cs.length ≤ 200 := Nat.le_trans hcl.length_le (by rw [List.length_take, ← len_cps]; omega)
      refine ite2 (fun _ => ?_) (fun _ => ?_)
      · refine ⟨_, rfl, _, k6 _ _ hcD hDp, ?_, ?_⟩
        · rw [List.length_map, List.length_map]
          exact small1000 (by omega)
        · refine ⟨hH6.off hDp, (k5.trans k6).over hHD, hDp, cs ++ [c], ?_, ?_⟩
          · rw [app_cons _ _ _ hc]
            exact hcl.append (List.Sublist.refl _)
          · rw [upd_same, List.map_append, List.map_append]; rfl
      · refine ⟨hH6, k5.trans k6, hDp, cs, ?_, k6 _ _ hcD hDp⟩
        rw [app_cons _ _ _ hc]
        exact hcl.trans (List.sublist_append_left _ _)
    · rintro H5 ⟨hH5, k5, hDp, cs, hcl, hcD⟩
      rw [List.take_length] at hcl
      have hll : cs.length ≤ 200 := Nat.le_trans hcl.length_le (by rw [← len_cps]; exact lz)
      refine ⟨_, D, cs.map sg, rfl, rfl, .inl (SqL.of hcD), ?_, ?_⟩
      · rw [sum_sg]
        show cs.length + (cs.map sg).length * 0 ≤ 16777216
        omega
      generalize hx0 : Txt.join (Str.ofString "") (cs.map sg) = x0
      have ex0 : x0.cps.toList = cs := by rw [← hx0]; exact join_sg cs
      exact q x0 H5 (fun c hc => rz c (hcl.subset (by rw [← ex0]; exact hc))) (by rw [ex0]; exact hcl) hH5 k5
end
end Lv
set_option Elab.async false
set_option linter.all false
set_option maxRecDepth 100000
set_option maxHeartbeats 8000000
namespace L2
open PySem
theorem cut_mid_len4 (x : Str) {a b : Int} (ha : 0 ≤ a) (hb : 0 ≤ b) : (cutS x (some a) (some b)).length = min b.toNat x.length - min a.toNat x.length := by
  rw [len_cps, cut_cps, sIx_pos _ _ ha, sIx_pos _ _ hb, List.length_take, List.length_drop, ← len_cps]
  omega
theorem cut_from_len4 (x : Str) {a : Int} (ha : 0 ≤ a) : (cutS x (some a) none).length = x.length - a.toNat := by
  rw [len_cps, cut_from x ha, List.length_drop, ← len_cps]
theorem app_len4 (x y : Str) : (x ++ y).length = x.length + y.length := by rw [len_cps, app_cps, List.length_append, ← len_cps, ← len_cps]
theorem az_row4' : IsRow (Str.ofString "az") ∧ (Str.ofString "az").length = 2 := by
  constructor
  · intro c hc
    have e : (Str.ofString "az").cps.toList = [97, 122] := by decide +kernel
    rw [e] at hc
    simp only [List.mem_cons, List.not_mem_nil, or_false] at hc
    omega
  · decide +kernel
end L2
namespace Lv
open PySem L2
section
variable {P : Program} {w : World} {K : PySem.W.Frag} {mg : Str → Option Value} {base : Heap} {f : Addr} {fd : FuncData}
abbrev sLawOther : Stmt := top 13
def nLawOther : List Str := ["hand", "row", "other", "kind", "at", "letter", "one_more"]
theorem scLawOther : FnScope nLawOther ["hand", "row"] (defScope sLawOther) := ⟨rfl, rfl, rfl, by decide +kernel, rfl, by decide +kernel, by decide +kernel⟩
theorem ok_other (T : Glb mg) (c_law_draw : Callee P w K mg base 1 "_law_draw" ["hand", "limit"] spDraw) (c_law_row : Callee P w K mg base 2 "_law_row" ["hand", "many"] spRow) (c_law_part : Callee P w K mg base 2 "_law_part" ["hand", "row"] spPart)
    (F : Fun K "_law_other" "_law_other" sLawOther f fd) : FnOk P w K mg base CX0 3 f fd ["hand", "row"] spOther := by
  refine F.ok scLawOther (fun vs H Q E h => ?_) (fun cdv A outer s H vs Q E hr h => ?_)
  · obtain ⟨p, z, rfl, _⟩ := h
    rfl
  obtain ⟨p, z, rfl, hH, rz, lz, q⟩ := h
  refine ⟨_, (pss_cons (ps_set (i := 2) scLawOther.nd rfl (Or.inl rfl) (pe_callC c_law_part hr rfl (pa_cons (pv 0) (pa_cons (pv 1) pa_nil))))
    (pss_cons (ps_set (i := 3) scLawOther.nd rfl (Or.inl rfl) (pe_callC c_law_draw hr rfl (pa_cons (pv 0) (pa_cons pe_int pa_nil))))
    (pss_cons (ps_set (i := 4) scLawOther.nd rfl (Or.inl rfl) (pe_callC c_law_draw hr rfl (pa_cons (pv 0) (pa_cons (pe_op op_add (pe_callB call_len_str rfl T.m_len PySem.boot_len (pa_cons (pv 2) pa_nil)) pe_int) pa_nil))))
    (pss_cons (ps_set (i := 5) scLawOther.nd rfl (Or.inl rfl) (pe_ix ix_str (pe_op op_add_str (pv 1) pe_str) (pe_callC c_law_draw hr rfl (pa_cons (pv 0) (pa_cons (pe_op op_add (pe_callB call_len_str rfl T.m_len PySem.boot_len (pa_cons (pv 1) pa_nil)) pe_int) pa_nil))) (fun _ _ => rfl)))
    (pss_cons (ps_if (pt_cmpR op_eq (pv 3) pe_int (nomark _)) (pss_one (ps_ret (pe_slice sl_str (pe_op op_add_str (pe_op op_add_str (pe_slice sl_str (pv 2) po_none (po_some (pv 4))) (pv 5)) (pe_slice sl_str (pv 2) (po_some (pv 4)) po_none)) po_none (po_some pe_int)))) pss_nil)
    (pss_cons (ps_if (pt_cmpR op_eq (pv 3) pe_int (nomark _)) (pss_cons (ps_set (i := 6) scLawOther.nd rfl (Or.inl rfl) (pe_op op_mulS (pv 5) (pe_callTy call_int1 rfl T.m_int (by decide +kernel) (pa_cons (pe_cmpR op_lt (pv 4) (pe_callB call_len_str rfl T.m_len PySem.boot_len (pa_cons (pv 2) pa_nil)) (nomark _)) pa_nil))))
    (pss_one (ps_ret (pe_op op_add_str (pe_op op_add_str (pe_slice sl_str (pv 2) po_none (po_some (pv 4))) (pv 6)) (pe_slice sl_str (pv 2) (po_some (pe_op op_add (pv 4) pe_int)) po_none))))) pss_nil)
    (pss_cons (ps_if (pt_cmpR op_eq (pv 3) pe_int (nomark _)) (pss_one (ps_ret (pe_op op_add_str (pe_op op_add_str (pe_slice sl_str (pv 2) po_none (po_some (pv 4))) (pe_revS (pe_slice sl_str (pv 2) (po_some (pv 4)) (po_some (pe_op op_add (pv 4) pe_int))))) (pe_slice sl_str (pv 2) (po_some (pe_op op_add (pv 4) pe_int)) po_none)))) pss_nil)
    (pss_cons (ps_if (pt_cmpR op_eq (pv 3) pe_int (nomark _)) (pss_one (ps_ret (pe_revS (pv 2)))) pss_nil)
    (pss_cons (ps_if (pt_cmpR op_eq (pv 3) pe_int (nomark _)) (pss_one (ps_ret (pe_callC c_law_row hr rfl (pa_cons (pv 0) (pa_cons (pe_callC c_law_draw hr rfl (pa_cons (pv 0) (pa_cons pe_int pa_nil))) pa_nil))))) pss_nil)
    (pss_one (ps_ret (pv 2)))))))))))), ?_⟩
  refine ⟨_, rfl, _, rfl, p, z, rfl, hH, rz, by omega, fun x H1 rx lx hH1 k1 => ?_⟩
  refine ⟨_, rfl, p, 9, rfl, hH1, by decide, by decide, fun kind H2 a2 b2 hH2 k2 => ?_⟩
  have lxs : x.length ≤ sizeLine := small80 (by omega)
  have lzs : z.length ≤ sizeLine := small80 (by omega)
  refine ⟨_, rfl, _, rfl, x, rfl, lxs, _, _, rfl, rfl, p, _, rfl, hH2, by omega, by omega, fun at_ H3 a3 b3 hH3 k3 => ?_⟩
  obtain ⟨azR, azL⟩ := az_row4'
  refine ⟨_, rfl, _, _, rfl, rfl, by rw [azL]; exact small80 (by omega), _, rfl, _, rfl, z, rfl, lzs, _, _, rfl, rfl, p, _, rfl, hH3, by omega, by omega, fun li H4 a4 b4 hH4 k4 => ?_⟩
  have lzz : (z ++ Str.ofString "az").length = z.length + 2 := by rw [app_len4, azL]
  obtain ⟨c, hc, _, hc2⟩ := at_in (xs := (z ++ Str.ofString "az").cps.toList) (v := li) a4 (by rw [← len_cps, lzz]; omega)
  refine ⟨_, _, c, rfl, rfl, by rw [lzz]; exact small80 (by omega), hc2, ?_⟩
  have rc : IsRow ⟨#[c]⟩ := fun d hd => by
    have : d = c := by simpa using hd
    rw [this]; exact (rz.app azR) c hc
  have kk : Kp p H H4 := ((k1.trans k2).trans k3).trans k4
  have e1 : (cutS x none (some at_)).length = min at_.toNat x.length := cut_to_len x a3
  have e2 : (cutS x (some at_) none).length = x.length - at_.toNat := cut_from_len4 x a3
  have e3 : (Str.mk #[c]).length = 1 := rfl
  refine ⟨_, rfl, rfl, _, rfl, ?_⟩
  refine ite2 (fun _ => ?_) (fun _ => ?_)
  · refine ⟨_, rfl, _, rfl, _, rfl, _, rfl, lxs, _, rfl, _, _, rfl, rfl, by rw [e1, e3]; exact small80 (by omega), _, rfl, _, rfl, _, rfl, _, rfl, lxs, _, _, rfl, rfl, by rw [app_len4, e1, e3, e2]; exact small80 (by omega), _, rfl, _, rfl, by rw [app_len4, app_len4, e1, e2, e3]; exact small80 (by omega), ?_⟩
    refine q _ H4 ((((rx.cut _ _).app rc).app (rx.cut _ _)).cut _ _) ?_ hH4 kk
    rw [cut_to_len _ (by decide)]
    exact Nat.min_le_left _ _
  refine ⟨_, rfl, rfl, _, rfl, ?_⟩
  refine ite2 (fun _ => ?_) (fun _ => ?_)
  · refine ⟨_, rfl, _, rfl, _, rfl, _, rfl, lxs, _, _, rfl, rfl, .inr ⟨_, rfl, ?_⟩⟩
    generalize hb : (if decide (at_ < (x.length : Int)) = true then (1 : Int) else 0) = b
    have hb0 : 0 ≤ b ∧ b ≤ 1 := by rw [← hb]; split <;> omega
    have hb1 : b = 1 → at_ < x.length := fun e => by
      rw [← hb] at e
      by_cases hq : at_ < (x.length : Int)
      · exact hq
      · rw [decide_eq_false hq] at e
        exact absurd e (by decide)
    have e5 : (mulS ⟨#[c]⟩ b).length = b.toNat := by rw [mulS_length, e3, Nat.mul_one]
    have e6 : (cutS x (some (at_ + 1)) none).length = x.length - (at_ + 1).toNat := cut_from_len4 x (by omega)
    refine ⟨_, _, rfl, rfl, by omega, by omega, by rw [e3]; omega, ?_⟩
    refine ⟨_, rfl, _, rfl, _, rfl, _, rfl, lxs, _, rfl, _, _, rfl, rfl, by rw [e1, e5]; exact small80 (by omega), _, rfl, _, rfl, _, _, rfl, rfl, _, rfl, _, rfl, lxs, _, _, rfl, rfl, by rw [app_len4, e1, e5, e6]; exact small80 (by omega), ?_⟩
    refine q _ H4 (((rx.cut _ _).app (rc.mul _)).app (rx.cut _ _)) ?_ hH4 kk
    rw [app_len4, app_len4, e1, e5, e6]
    by_cases h1 : b = 1
    · have := hb1 h1
      omega
    · omega
  refine ⟨_, rfl, rfl, _, rfl, ?_⟩
  refine ite2 (fun _ => ?_) (fun _ => ?_)
  · have e7 : (cutS x (some at_) (some (at_ + 2))).length = min (at_ + 2).toNat x.length - min at_.toNat x.length := cut_mid_len4 x a3 (by omega)
    have e8 : (cutS x (some (at_ + 2)) none).length = x.length - (at_ + 2).toNat := cut_from_len4 x (by omega)
    refine ⟨_, rfl, _, rfl, _, rfl, _, rfl, lxs, _, rfl, _, rfl, _, rfl, _, rfl, _, _, rfl, rfl, _, rfl, _, rfl, lxs, _, rfl, by rw [e7]; exact small80 (by omega), _, _, rfl, rfl, by rw [revS_length, e1, e7]; exact small80 (by omega), _, rfl, _, rfl, _, _, rfl, rfl, _, rfl, _, rfl, lxs, _, _, rfl, rfl, by rw [app_len4, revS_length, e1, e7, e8]; exact small80 (by omega), ?_⟩
    refine q _ H4 (((rx.cut _ _).app (rx.cut _ _).rev).app (rx.cut _ _)) ?_ hH4 kk
    rw [app_len4, app_len4, revS_length, e1, e7, e8]
    omega
  refine ⟨_, rfl, rfl, _, rfl, ?_⟩
  refine ite2 (fun _ => ?_) (fun _ => ?_)
  · refine ⟨_, rfl, _, rfl, lxs, ?_⟩
    exact q _ H4 rx.rev (by rw [revS_length]; omega) hH4 kk
  refine ⟨_, rfl, rfl, _, rfl, ?_⟩
  refine ite2 (fun _ => ?_) (fun _ => ?_)
  · refine ⟨_, rfl, _, rfl, p, 9, rfl, hH4, by decide, by decide, fun n H5 a5 b5 hH5 k5 => ?_⟩
    exact ⟨p, n, rfl, hH5, a5, by omega, fun y H6 ry ly hH6 k6 => q _ H6 ry (by omega) hH6 (kk.trans (k5.trans k6))⟩
  · exact ⟨_, rfl, q _ H4 rx (by omega) hH4 kk⟩
end
end Lv
set_option Elab.async false
set_option linter.all false
set_option maxRecDepth 100000
set_option maxHeartbeats 8000000
namespace Lv
open PySem L2
section
variable {P : Program} {w : World} {K : PySem.W.Frag} {mg : Str → Option Value} {base : Heap} {f : Addr} {fd : FuncData}
abbrev sLawCalled : Stmt := top 14
def nLawCalled : List Str := ["text", "letters", "sign"]
theorem scLawCalled : FnScope nLawCalled ["text"] (defScope sLawCalled) := ⟨rfl, rfl, rfl, by decide +kernel, rfl, by decide +kernel, by decide +kernel⟩
theorem ok_called (T : Glb mg)  (F : Fun K "_law_called" "_law_called" sLawCalled f fd) : FnOk P w K mg base CX0 1 f fd ["text"] spCalled := by
  refine F.ok scLawCalled (fun vs H Q E h => ?_) (fun cdv A outer s H vs Q E hr h => ?_)
  · obtain ⟨z, rfl, _⟩ := h
    rfl
  obtain ⟨z, rfl, hz, hzl, q⟩ := h
  have hu := hu_of hr
  refine' ⟨_, ?TT, ?RR⟩
  case TT =>
    refine' pss_cons ?x1 ?x2
    case x1 =>
     refine' ps_set (i := 1) scLawCalled.nd rfl (Or.inr rfl) ?x3
     case x3 =>
      exact pe_str
    case x2 =>
     refine' pss_one ?x4
     case x4 =>
      refine' ps_ret ?x5
      case x5 =>
       refine' pe_join ?x6 ?x7
       case x6 =>
        exact pe_str
       case x7 =>
        refine' pe_lc (own := [("sign", 2)]) (g := gName 2) (by rfl) scLawCalled.nd ?x8 (blkOk_by (own := [("sign", 2)]) (N := nLawCalled) (sc := defScope sLawCalled) (by decide +kernel)) (fun _ _ _ _ _ => pg_name (i := 2) scLawCalled.nd rfl (Or.inl rfl)) ?x9 ?x10
        case x8 =>
         exact (pi_str (pv 0))
        case x9 =>
         intro _ _ _ _ _
         exact pts_nil
        case x10 =>
         intro _ _ _ _ _
         refine' pe_ix ix_str (pv 1) ?x11 (fun _ _ => rfl)
         case x11 =>
          refine' pe_op op_add ?x12 ?x13
          case x12 =>
           exact (pe_m1 PySem.F.slot_str_index PySem.F.type_str_index mt_indexS (pv 1) (pv 2))
          case x13 =>
           exact pe_int
  case RR =>
    have ez : z.length = z.cps.toList.length := len_cps z
    refine ⟨⟨_, rfl⟩, _, rfl, z, rfl, fun D nD => ?_⟩
    refine lc_str (z := z) (fun i H5 => Same H H5 ∧ H5 D = some (.lst ((((z.cps.toList.take i).map nextL).map sg).map V.str))) ?_ ?_ ?_
    · exact ⟨same_new nD _, by rw [upd_same, List.take_zero]; rfl⟩
    · rintro i c H5 hc ⟨s5, h5⟩
      have hcr := hz c (List.mem_of_getElem? hc)
      have hi : i < z.cps.toList.length := (List.getElem?_eq_some_iff.mp hc).1
      refine ⟨rfl, ?_⟩
      refine ⟨_, rfl, _, rfl, ⟨_, rfl⟩, _, rfl, _, c, c - 97, rfl, rfl, nxt_abca hcr, _, _, rfl, rfl, ?_⟩
      refine ⟨_, _, _, rfl, rfl, by decide +kernel, abca_at hcr, ?_⟩
      refine ⟨_, h5, by rw [List.length_map, List.length_map, List.length_map, List.length_take]; exact small1000 (by omega), fun b o e => by rw [upd_ne (ne_of_none e nD)]; exact s5 b o e, ?_⟩
      rw [upd_same, app_cons _ _ _ hc, List.map_append, List.map_append, List.map_append]; rfl
    rintro H5 ⟨s5, h5⟩
    rw [List.take_length] at h5
    generalize hnm : z.cps.toList.map nextL = nm at h5
    have hnl : nm.length = z.cps.toList.length := by rw [← hnm, List.length_map]
    refine ⟨_, D, nm.map sg, rfl, rfl, .inl (SqL.of h5), ?_, ?_⟩
    · rw [sum_sg]
      show nm.length + (nm.map sg).length * 0 ≤ 16777216
      omega
    have ej : (Txt.join (Str.ofString "") (nm.map sg)).cps.toList = nm := join_sg _
    exact q _ _ (by rw [ej, hnm]) s5
end
end Lv
set_option Elab.async false
set_option linter.all false
set_option maxRecDepth 100000
set_option maxHeartbeats 8000000
namespace Lv
open PySem L2
section
variable {P : Program} {w : World} {K : PySem.W.Frag} {mg : Str → Option Value} {base : Heap} {f : Addr} {fd : FuncData}
abbrev sIsRow : Stmt := top 1
def nIsRow : List Str := ["thing"]
theorem scIsRow : FnScope nIsRow ["thing"] (defScope sIsRow) := ⟨rfl, rfl, rfl, by decide +kernel, rfl, by decide +kernel, by decide +kernel⟩
theorem ok_isrow {c tb : Addr} (T : Glb mg) (B : BModB base mg) (ck : CodeK K c tb) (hc : fd.code = .ref c) (F : Fun K "is_row" "is_row" sIsRow f fd) : FnOk P w K mg base CX0 1 f fd ["thing"] (spIsRow2 K tb) := by
  refine F.okC hc scIsRow (fun vs H Q E h => ?_) (fun A outer s H vs Q E hr h => ?_)
  · obtain ⟨x, rfl, _⟩ := h
    rfl
  obtain ⟨x, rfl, h⟩ := h
  refine ⟨_, (pss_one (ps_ret (pe_and (pe_callB (cr_isi.or cr_isiE) rfl T.m_isinstance (by decide +kernel) (pa_cons (pv 0) (pa_cons (pe_bltn (v := .ty "str") rfl T.m_str (by decide +kernel) rfl) pa_nil))) (pe_one (pe_allS rfl T.m_all hr rfl ck B (pv 0) (el_between rfl rfl)))))), ?_⟩
  rcases h with ⟨z, rfl, hP, q⟩ | ⟨hi, q⟩ | ⟨a, rfl, ha, q⟩
  · refine ⟨_, rfl, .inl ⟨_, _, _, rfl, .s_str _, true, rfl, ?_⟩⟩
    refine iteT ?_
    exact ⟨_, rfl, z, rfl, hP, q⟩
  · refine ⟨_, rfl, .inl ⟨_, _, _, rfl, hi, false, rfl, ?_⟩⟩
    refine iteF ?_
    exact q
  · refine ⟨_, rfl, .inr ⟨a, rfl, ha, false, rfl, ?_⟩⟩
    refine iteF ?_
    exact q
abbrev sFirstPlaces : Stmt := top 3
def nFirstPlaces : List Str := ["row", "other", "places", "start", "letter", "place"]
theorem scFirstPlaces : FnScope nFirstPlaces ["row", "other"] (defScope sFirstPlaces) := ⟨rfl, rfl, rfl, by decide +kernel, rfl, by decide +kernel, by decide +kernel⟩
theorem ok_first (T : Glb mg) (F : Fun K "first_places" "first_places" sFirstPlaces f fd) : FnOk P w K mg base CX0 1 f fd ["row", "other"] spFirst2 := by
  refine F.ok scFirstPlaces (fun vs H Q E h => ?_) (fun cdv A outer s H vs Q E hr h => ?_)
  · obtain ⟨z, y, rfl, _⟩ := h
    rfl
  obtain ⟨z, y, rfl, lz, ly, q⟩ := h
  refine ⟨_, (pss_cons (ps_set (i := 2) scFirstPlaces.nd rfl (Or.inl rfl) (pe_lst pa_nil))
    (pss_cons (ps_set (i := 3) scFirstPlaces.nd rfl (Or.inl rfl) pe_int)
    (pss_cons (ps_for PassesOwn.never rfl (pi_str (pv 1)) (pg_name (i := 4) scFirstPlaces.nd rfl (Or.inl rfl))
      (pss_cons (ps_set (i := 5) scFirstPlaces.nd rfl (Or.inl rfl) (pe_bm PySem.F.plainAttrs_str PySem.F.slot_str_find PySem.F.type_str_find mt_find3 (pv 0) (pa_cons (pv 4) (pa_cons (pv 3) pa_nil))))
    (pss_cons (ps_if (pt_cmpR op_lt (pv 5) pe_int (nomark _)) (pss_one (ps_ret pe_non)) pss_nil)
    (pss_cons (ps_expr (pe_bm PySem.F.plainAttrs_list PySem.F.slot_list_append PySem.F.type_list_append mt_append (pv 2) (pa_cons (pv 5) pa_nil)))
    (pss_one (ps_set (i := 3) scFirstPlaces.nd rfl (Or.inl rfl) (pe_op op_add (pv 5) pe_int)))))))
    (pss_one (ps_ret (pv 2)))))), ?_⟩
  refine ⟨(by show 0 ≤ sizeLine; decide), fun l hl => ?_⟩
  refine ⟨_, rfl, y, rfl, ?_⟩
  have ey := len_cps y
  refine for_str (z := y) (fun t σ H1 => ∃ (ks : List Nat) (i : Nat) (v4 v5 : Option V), Same H H1 ∧ H1 l = some (.lst (nInt ks)) ∧ ks.length = t ∧ fsts z.cps.toList 0 y.cps.toList = (fsts z.cps.toList i (y.cps.toList.drop t)).map (ks ++ ·) ∧ σ = [some (.str z), some (.str y), some (.ref l), some (.int (i : Nat)), v4, v5]) ?_ ?_ ?_
  · refine ⟨[], 0, none, none, same_new hl _, upd_same, rfl, ?_, rfl⟩
    simp
  · rintro t c σ H1 hc ⟨ks, i, v4, v5, sm, hL, hk, hf, rfl⟩
    have ht : t < y.cps.toList.length := (List.getElem?_eq_some_iff.mp hc).1
    refine ⟨_, rfl, rfl, _, rfl, _, rfl, z, c, (i : Int), rfl, rfl, by omega, ?_⟩
    rw [Int.toNat_natCast]
    rw [drop_at4 hc] at hf
    cases hn : nxt z.cps.toList i (sg c) with
    | none =>
      have hf' : fsts z.cps.toList 0 y.cps.toList = none := by rw [hf]; unfold fsts; rw [hn]; rfl
      rw [hf'] at q
      refine ⟨_, rfl, _, _, rfl, rfl, _, rfl, ?_⟩
      refine ite2 (fun cc => ?_) (fun cc => absurd (show decide ((-1 : Int) < 0) = true from rfl) cc)
      exact q H1 sm
    | some k =>
      have hb := nxt_bounds hn
      have hf' : fsts z.cps.toList 0 y.cps.toList = (fsts z.cps.toList (k + 1) (y.cps.toList.drop (t + 1))).map ((ks ++ [k]) ++ ·) := by
        rw [hf, ← opt_cons]; congr 1
        show (match nxt z.cps.toList i (sg c) with | none => none | some k => (fsts z.cps.toList (k + 1) (y.cps.toList.drop (t + 1))).map (k :: ·)) = _
        rw [hn]
      refine ⟨_, rfl, _, _, rfl, rfl, _, rfl, ?_⟩
      refine ite2 (fun cc => absurd (of_decide_eq_true cc) (by show ¬ ((k : Int) < 0); omega)) (fun cc => ?_)
      refine ⟨_, rfl, .inl ⟨rfl, _, SqL.of hL⟩, _, rfl, l, _, _, rfl, rfl, hL, ?_, ?_⟩
      · rw [List.length_map, hk]; exact Nat.lt_of_lt_of_le ht (small80 (by omega))
      · refine ⟨_, rfl, _, _, rfl, rfl, ?_⟩
        refine ⟨ks ++ [k], k + 1, _, _, same_over sm hl, ?_, by rw [List.length_append, hk]; rfl, hf', rfl⟩
        rw [upd_same, ← nInt_snoc]; rfl
  · rintro σ H1 ⟨ks, i, v4, v5, sm, hL, hk, hf, rfl⟩
    refine ⟨_, rfl, ?_⟩
    rw [List.drop_length] at hf
    have hf' : fsts z.cps.toList 0 y.cps.toList = some ks := hf.trans (opt_nil ks)
    rw [hf'] at q
    exact q l H1 sm hl hL
abbrev sIsLeft : Stmt := top 2
def nIsLeft : List Str := ["row", "thing"]
theorem scIsLeft : FnScope nIsLeft ["row", "thing"] (defScope sIsLeft) := ⟨rfl, rfl, rfl, by decide +kernel, rfl, by decide +kernel, by decide +kernel⟩
theorem ok_isleft {tb : Addr} (T : Glb mg) (c_is_row : Callee P w K mg base 1 "is_row" ["thing"] (spIsRow2 K tb)) (c_first_places : Callee P w K mg base 1 "first_places" ["row", "other"] spFirst2) (F : Fun K "is_left" "is_left" sIsLeft f fd) : FnOk P w K mg base CX0 2 f fd ["row", "thing"] (spIsLeft2 K tb) := by
  refine F.ok scIsLeft (fun vs H Q E h => ?_) (fun cdv A outer s H vs Q E hr h => ?_)
  · obtain ⟨z, x, rfl, _⟩ := h
    rfl
  obtain ⟨z, x, rfl, lz, h⟩ := h
  refine ⟨_, (pss_one (ps_ret (pe_and (pe_callC c_is_row hr rfl (pa_cons (pv 1) pa_nil)) (pe_one (pe_cmpR op_notN (pe_callC c_first_places hr rfl (pa_cons (pv 0) (pa_cons (pv 1) pa_nil))) pe_non (nomark _)))))), ?_⟩
  rcases h with ⟨y, rfl, ly, hP, q⟩ | ⟨hi, q⟩ | ⟨a, rfl, ha, q⟩
  · refine ⟨_, rfl, _, rfl, .inl ⟨y, rfl, hP, rowB y, rfl, ?_⟩⟩
    cases hb : rowB y with
    | false =>
      rw [hb] at q
      exact q H (Same.refl _)
    | true =>
      rw [hb] at q
      refine ite2 (fun _ => ?_) (fun c => absurd rfl c)
      refine ⟨_, rfl, _, rfl, z, y, rfl, lz, ly, ?_⟩
      cases hf : fsts z.cps.toList 0 y.cps.toList with
      | none =>
        rw [hf] at q
        intro H' sm
        exact ⟨rfl, q H' sm⟩
      | some ks =>
        rw [hf] at q
        intro p H' sm n e
        exact ⟨rfl, q H' sm⟩
  · refine ⟨_, rfl, _, rfl, .inr (.inl ⟨hi, false, rfl, ?_⟩)⟩
    exact q
  · refine ⟨_, rfl, _, rfl, .inr (.inr ⟨a, rfl, ha, false, rfl, ?_⟩)⟩
    exact q
abbrev sLastPlaces : Stmt := top 4
def nLastPlaces : List Str := ["row", "other", "places", "end", "letter", "place"]
theorem scLastPlaces : FnScope nLastPlaces ["row", "other"] (defScope sLastPlaces) := ⟨rfl, rfl, rfl, by decide +kernel, rfl, by decide +kernel, by decide +kernel⟩
theorem ok_lastp (T : Glb mg) (F : Fun K "last_places" "last_places" sLastPlaces f fd) : FnOk P w K mg base CX0 1 f fd ["row", "other"] spLast := by
  refine F.ok scLastPlaces (fun vs H Q E h => ?_) (fun cdv A outer s H vs Q E hr h => ?_)
  · obtain ⟨z, y, rfl, _⟩ := h
    rfl
  obtain ⟨z, y, rfl, lz, ly, q⟩ := h
  refine ⟨_, (pss_cons (ps_set (i := 2) scLastPlaces.nd rfl (Or.inl rfl) (pe_lst pa_nil))
    (pss_cons (ps_set (i := 3) scLastPlaces.nd rfl (Or.inl rfl) (pe_callB call_len_str rfl T.m_len PySem.boot_len (pa_cons (pv 0) pa_nil)))
    (pss_cons (ps_for PassesOwn.never rfl (pi_revStr rfl T.m_reversed (pa_cons (pv 1) pa_nil)) (pg_name (i := 4) scLastPlaces.nd rfl (Or.inl rfl))
      (pss_cons (ps_set (i := 5) scLastPlaces.nd rfl (Or.inl rfl) (pe_bm PySem.F.plainAttrs_str PySem.F.slot_str_rfind PySem.F.type_str_rfind mt_rfind4 (pv 0) (pa_cons (pv 4) (pa_cons pe_int (pa_cons (pv 3) pa_nil)))))
    (pss_cons (ps_if (pt_cmpR op_lt (pv 5) pe_int (nomark _)) (pss_one (ps_ret pe_non)) pss_nil)
    (pss_cons (ps_expr (pe_bm PySem.F.plainAttrs_list PySem.F.slot_list_append PySem.F.type_list_append mt_append (pv 2) (pa_cons (pv 5) pa_nil)))
    (pss_one (ps_set (i := 3) scLastPlaces.nd rfl (Or.inl rfl) (pv 5)))))))
    (pss_cons (ps_expr (pe_bm0 PySem.F.plainAttrs_list PySem.F.slot_list_reverse PySem.F.type_list_reverse mt_reverse (pv 2)))
    (pss_one (ps_ret (pv 2))))))), ?_⟩
  have ez := len_cps z
  have ey := len_cps y
  have lzs : z.length ≤ sizeLine := small80 (by omega)
  have lys : y.length ≤ sizeLine := small80 (by omega)
  unfold lastP at q
  refine ⟨(by show 0 ≤ sizeLine; decide), fun l hl => ?_⟩
  refine ⟨_, rfl, z, rfl, lzs, _, rfl, y, rfl, lys, ?_⟩
  refine for_revS (z := y) (fun t σ H1 => ∃ (ks : List Nat) (e : Nat) (v4 v5 : Option V), Same H H1 ∧ H1 l = some (.lst (nInt ks)) ∧ ks.length = t ∧ e ≤ z.cps.toList.length ∧ lsts z.cps.toList z.cps.toList.length y.cps.toList.reverse = (lsts z.cps.toList e (y.cps.toList.reverse.drop t)).map (ks ++ ·) ∧ σ = [some (.str z), some (.str y), some (.ref l), some (.int (e : Nat)), v4, v5]) ?_ ?_ ?_
  · refine ⟨[], z.cps.toList.length, none, none, same_new hl _, upd_same, rfl, Nat.le_refl _, ?_, ?_⟩
    · simp
    · rw [← ez]; rfl
  · rintro t c σ H1 hc ⟨ks, e, v4, v5, sm, hL, hk, he, hf, rfl⟩
    have ht : t < y.cps.toList.length := by have := (List.getElem?_eq_some_iff.mp hc).1; rwa [List.length_reverse] at this
    refine ⟨_, rfl, rfl, _, rfl, _, rfl, z, c, (e : Int), rfl, rfl, by omega, by omega, ?_⟩
    rw [Int.toNat_natCast]
    rw [drop_at4 hc] at hf
    cases hn : prv z.cps.toList e (sg c) with
    | none =>
      have hf' : lsts z.cps.toList z.cps.toList.length y.cps.toList.reverse = none := by rw [hf]; unfold lsts; rw [hn]; rfl
      rw [hf'] at q
      refine ⟨_, rfl, _, _, rfl, rfl, _, rfl, ?_⟩
      refine ite2 (fun cc => ?_) (fun cc => absurd (show decide ((-1 : Int) < 0) = true from rfl) cc)
      exact q H1 sm
    | some k =>
      have hb := prv_bounds e hn
      have hf' : lsts z.cps.toList z.cps.toList.length y.cps.toList.reverse = (lsts z.cps.toList k (y.cps.toList.reverse.drop (t + 1))).map ((ks ++ [k]) ++ ·) := by
        rw [hf, ← opt_cons]; congr 1
        show (match prv z.cps.toList e (sg c) with | none => none | some k => (lsts z.cps.toList k (y.cps.toList.reverse.drop (t + 1))).map (k :: ·)) = _
        rw [hn]
      refine ⟨_, rfl, _, _, rfl, rfl, _, rfl, ?_⟩
      refine ite2 (fun cc => absurd (of_decide_eq_true cc) (by show ¬ ((k : Int) < 0); omega)) (fun cc => ?_)
      refine ⟨_, rfl, .inl ⟨rfl, _, SqL.of hL⟩, _, rfl, l, _, _, rfl, rfl, hL, ?_, ?_⟩
      · rw [List.length_map, hk]; exact Nat.lt_of_lt_of_le ht (small80 (by omega))
      · refine ⟨_, rfl, ?_⟩
        refine ⟨ks ++ [k], k, _, _, same_over sm hl, ?_, by rw [List.length_append, hk]; rfl, by omega, hf', rfl⟩
        rw [upd_same, ← nInt_snoc]; rfl
  · rintro σ H1 ⟨ks, i, v4, v5, sm, hL, hk, he, hf, rfl⟩
    have hdr : y.cps.toList.reverse.drop y.cps.toList.length = [] := List.drop_eq_nil_of_le (by rw [List.length_reverse]; exact Nat.le_refl _)
    rw [hdr] at hf
    have hf' : lsts z.cps.toList z.cps.toList.length y.cps.toList.reverse = some ks := hf.trans (opt_nil ks)
    rw [hf'] at q
    refine ⟨_, rfl, .inl ⟨rfl, _, SqL.of hL⟩, l, _, rfl, rfl, hL, ?_⟩
    refine ⟨_, rfl, ?_⟩
    refine q l _ (same_over sm hl) hl ?_
    rw [upd_same, nInt, nInt, List.map_reverse]
end
end Lv
set_option Elab.async false
set_option linter.all false
set_option maxRecDepth 100000
set_option maxHeartbeats 3200000
namespace L2
open PySem PySem.Spec PyProof.Rows
section
variable {prog : Program} {w : World} {A : Around} {E : Value → Shared → Prop} {s : Shared}
end
def tSortedSetL (K : PySem.W.Frag) (ta : TA) : TE := fun σ H Q => ta σ H fun vs H1 => ∃ (l0 : Addr) (cs : List Nat), vs = [.ref l0] ∧ SqL K H1 l0 ((cs.map sg).map V.str) ∧ cs.length < 3900 ∧ (∀ ds : List Nat, ds.Nodup → (∀ d ∈ ds, d ∈ cs) → ds.length < 64) ∧
  ∀ (l : Addr) (ds : List Nat), H1 l = none → ds.Pairwise (· < ·) → (∀ c, c ∈ ds ↔ c ∈ cs) → Q (.ref l) (upd H1 l (.lst ((ds.map sg).map V.str)))
end L2
set_option Elab.async false
set_option linter.all false
set_option maxRecDepth 100000
set_option autoImplicit false
namespace Zs
open PySem PyProof.Rows
structure SB (a₀ : Array Keyed) (st : SortSt) : Prop where
  perm : (arrOf st).Perm a₀
  kind : kindOf st = oneType'
  failed : failedOf st = none
theorem SB.size {a₀ : Array Keyed} {st : SortSt} (h : SB a₀ st) : (arrOf st).size = a₀.size := h.perm.size_eq
theorem SB.arr {a₀ : Array Keyed} {st : SortSt} (h : SB a₀ st) {xs : Array Keyed} (hp : xs.Perm (arrOf st)) : SB a₀ (setArr st xs) := ⟨hp.trans h.perm, h.kind, h.failed⟩
/-- the same but for the places from lo on, below hi -/
def Out (lo hi : Nat) (xs ys : Array Keyed) : Prop := ∀ k, k < lo ∨ hi ≤ k → ys[k]? = xs[k]?
theorem Out.refl {lo hi : Nat} (xs : Array Keyed) : Out lo hi xs xs := fun _ _ => rfl
theorem Out.trans {lo hi : Nat} {xs ys zs : Array Keyed} (h : Out lo hi xs ys) (g : Out lo hi ys zs) : Out lo hi xs zs := fun k hk => (g k hk).trans (h k hk)
theorem Out.mono {lo hi lo' hi' : Nat} {xs ys : Array Keyed} (h : Out lo hi xs ys) (a : lo' ≤ lo) (b : hi ≤ hi') : Out lo' hi' xs ys := fun k hk => h k (by omega)
theorem out_mirror {xs : Array Keyed} {i j : Nat} (hj : j ≤ xs.size) : Out i j xs (mirror xs i j ((j - i) / 2)) := fun k hk => by rw [getElem?_mirror_all hj, if_neg (by omega)]
theorem out_bubble {xs : Array Keyed} {src d : Nat} (hs : src < xs.size) (hd : d ≤ src) : Out (src - d) (src + 1) xs (bubble xs src d) := fun k hk => by rw [getElem?_bubble hs d hd, if_neg (by omega), if_neg (by omega)]
structure Stp (a₀ : Array Keyed) (lo hi : Nat) (st st' : SortSt) : Prop where
  b : SB a₀ st'
  p : pendingOf st' = pendingOf st
  o : Out lo hi (arrOf st) (arrOf st')
theorem Stp.refl {a₀ : Array Keyed} {lo hi : Nat} {st : SortSt} (h : SB a₀ st) : Stp a₀ lo hi st st := ⟨h, rfl, Out.refl _⟩
theorem Stp.trans {a₀ : Array Keyed} {lo hi : Nat} {st st' st'' : SortSt} (h : Stp a₀ lo hi st st') (g : Stp a₀ lo hi st' st'') : Stp a₀ lo hi st st'' := ⟨g.b, g.p.trans h.p, h.o.trans g.o⟩
theorem Stp.arr {a₀ : Array Keyed} {lo hi : Nat} {st : SortSt} (h : SB a₀ st) {xs : Array Keyed} (hp : xs.Perm (arrOf st)) (ho : Out lo hi (arrOf st) xs) : Stp a₀ lo hi st (setArr st xs) := ⟨h.arr hp, rfl, ho⟩
def Seg (κ : PyProof.Rows.KeyKind) (xs : Array Keyed) (lo n : Nat) : Prop := ∀ i j, i ≤ j → j < n → κ.kle (KK κ xs (lo + i)) (KK κ xs (lo + j))
def Fal (κ : PyProof.Rows.KeyKind) (xs : Array Keyed) (lo n : Nat) : Prop := ∀ i j, i ≤ j → j < n → κ.kle (KK κ xs (lo + j)) (KK κ xs (lo + i))
theorem Seg.cong {κ : PyProof.Rows.KeyKind} {xs ys : Array Keyed} {lo n : Nat} (h : Seg κ xs lo n) (e : ∀ k, lo ≤ k → k < lo + n → ys[k]? = xs[k]?) : Seg κ ys lo n := fun i j hij hj => by
  rw [KK_congr (e (lo + i) (by omega) (by omega)), KK_congr (e (lo + j) (by omega) (by omega))]
  exact h i j hij hj
section
variable {prog : Program} {w : World} {A : Around} {E : Value → Shared → Prop} {s : Shared} {a₀ : Array Keyed} {κ : PyProof.Rows.KeyKind}
theorem SB.key {st : SortSt} (h : SB a₀ st) (h0 : KeysOf κ a₀) {i : Nat} (hi : i < a₀.size) : ∃ x p a, (arrOf st)[i]? = some (x, p) ∧ κ.keyOf x = some a ∧ KK κ (arrOf st) i = a := by
  have hi2 : i < (arrOf st).size := by rw [h.size]; exact hi
  obtain ⟨a, ha⟩ := h0 (arrOf st)[i] ((Array.perm_iff_toList_perm.mp h.perm).mem_iff.mp (by simp))
  have e : (arrOf st)[i]? = some (arrOf st)[i] := getElem?_pos _ i hi2
  exact ⟨_, _, a, e, ha, by unfold KK; rw [e]; simp [ha]⟩
theorem lt_at {st : SortSt} {i j : Nat} {Q : Option Bool → SortSt → Prop} (hO : κ.OneLt) (hB : SB a₀ st) (h0 : KeysOf κ a₀) (hi : i < a₀.size) (hj : j < a₀.size)
    (h : Q (some (κ.blt (KK κ (arrOf st) i) (KK κ (arrOf st) j))) st) : wpS (model prog w) A E s (ltAt' i j) Q st := by
  obtain ⟨x, p, a, e1, ha, ka⟩ := hB.key h0 hi
  obtain ⟨y, q, b, e2, hb, kb⟩ := hB.key h0 hj
  rw [ka, kb] at h
  exact wpS_ltAtK hO hB.kind e1 e2 ha hb h
def ascL (lo a m : Nat) : StateT SortSt Sem (Option (Option Nat) × Nat) := forIn [a:m] ((none, a) : Option (Option Nat) × Nat) fun _ c => do
  let r ← ltAt' (lo + c.snd) (lo + c.snd - 1)
  match r with
  | some b => if b = true then pure (ForInStep.done (none, c.snd)) else pure (ForInStep.yield (none, c.snd + 1))
  | _ => pure (ForInStep.done (some none, c.snd))
def tailL (lo n m : Nat) : StateT SortSt Sem (Option Nat) := do
  reverseSlice' lo (lo + n)
  let c ← ascL lo n m
  match c.fst with
  | some r => pure r
  | none => pure (some c.snd)
def descL (lo n m : Nat) : StateT SortSt Sem (Option (Option Nat) × Nat × Nat) := forIn [n:m] ((none, n, 0) : Option (Option Nat) × Nat × Nat) fun _ c => do
  let r ← ltAt' (lo + c.snd.fst) (lo + c.snd.fst - 1)
  match r with
  | some b =>
    if b = true then
      if c.snd.snd > 0 then do
        reverseSlice' (lo + c.snd.fst - (c.snd.snd + 1)) (lo + c.snd.fst)
        pure (ForInStep.yield (none, c.snd.fst + 1, 0))
      else pure (ForInStep.yield (none, c.snd.fst + 1, 0))
    else do
      let r2 ← ltAt' (lo + c.snd.fst - 1) (lo + c.snd.fst)
      match r2 with
      | some b2 => if b2 = true then pure (ForInStep.done (none, c.snd.fst, c.snd.snd)) else pure (ForInStep.yield (none, c.snd.fst + 1, c.snd.snd + 1))
      | _ => pure (ForInStep.done (some none, c.snd.fst, c.snd.snd))
  | _ => pure (ForInStep.done (some none, c.snd.fst, c.snd.snd))
def partL (lo n m : Nat) : StateT SortSt Sem (Option Nat) := do
  liftM (rule "list.sort.descending-run")
  let c ← descL lo (n + 1) m
  match c.fst with
  | some r => pure r
  | none =>
    if c.snd.snd > 0 then do
      reverseSlice' (lo + c.snd.fst - (c.snd.snd + 1)) (lo + c.snd.fst)
      tailL lo c.snd.fst m
    else tailL lo c.snd.fst m
theorem bq {m : Type → Type} [Bind m] {α β : Type} {x y : m α} {f g : α → m β} (h : x = y) (k : ∀ a, f a = g a) : (x >>= f) = (y >>= g) := by rw [h, funext k]
theorem countL_eq (lo m : Nat) : countRun' lo m = (do
    let c ← ascL lo 1 m
    match c.fst with
    | some r => pure r
    | none =>
      if (c.snd == m) = true then pure (some c.snd)
      else if c.snd > 1 then do
        let r ← ltAt' lo (lo + c.snd - 1)
        match r with
        | some b => if b = true then pure (some c.snd) else do
            reverseSlice' lo (lo + c.snd)
            partL lo c.snd m
        | _ => pure none
      else partL lo c.snd m) := by
  rw [countRun'_eq]
  unfold partL tailL descL ascL
  refine bq rfl fun c => ?_
  obtain ⟨r, n⟩ := c
  cases r with
  | some r => rfl
  | none =>
    dsimp only
    split
    · rfl
    · split
      · refine bq rfl fun x => ?_
        cases x with
        | none => rfl
        | some b =>
          dsimp only
          split
          · rfl
          · refine bq rfl fun _r => ?_
            refine bq rfl fun _u => ?_
            refine bq rfl fun c2 => ?_
            obtain ⟨r2, n2, q2⟩ := c2
            cases r2 with
            | some r2 => rfl
            | none => (dsimp only; split; (refine bq rfl fun _v => ?_; (refine bq rfl fun _w => ?_; refine bq rfl fun c3 => ?_; obtain ⟨r3, n3⟩ := c3; cases r3 <;> rfl)); (refine bq rfl fun _w => ?_; refine bq rfl fun c3 => ?_; obtain ⟨r3, n3⟩ := c3; cases r3 <;> rfl))
      · refine bq rfl fun _u => ?_
        refine bq rfl fun c2 => ?_
        obtain ⟨r2, n2, q2⟩ := c2
        cases r2 with
        | some r2 => rfl
        | none => (dsimp only; split; (refine bq rfl fun _v => ?_; (refine bq rfl fun _w => ?_; refine bq rfl fun c3 => ?_; obtain ⟨r3, n3⟩ := c3; cases r3 <;> rfl)); (refine bq rfl fun _w => ?_; refine bq rfl fun c3 => ?_; obtain ⟨r3, n3⟩ := c3; cases r3 <;> rfl))
end
end Zs
set_option Elab.async false
set_option linter.all false
set_option maxRecDepth 100000
set_option autoImplicit false
namespace Zs
open PySem PyProof.Rows
section
variable {prog : Program} {w : World} {A : Around} {E : Value → Shared → Prop} {s : Shared} {a₀ : Array Keyed} {κ : PyProof.Rows.KeyKind}
theorem seg_one {xs : Array Keyed} {lo : Nat} : Seg κ xs lo 1 := fun i j hij hj => by
  obtain rfl : i = j := by omega
  exact KeyOrd.kle_refl _
theorem Seg.more {xs : Array Keyed} {lo n : Nat} (h : Seg κ xs lo n) (h1 : 1 ≤ n) (g : κ.kle (KK κ xs (lo + n - 1)) (KK κ xs (lo + n))) : Seg κ xs lo (n + 1) := fun i j hij hj => by
  by_cases hjn : j < n
  · exact h i j hij hjn
  · obtain rfl : j = n := by omega
    by_cases hi : i = j
    · rw [hi]; exact KeyOrd.kle_refl _
    · refine KeyOrd.kle_trans (h i (j - 1) (by omega) (by omega)) ?_
      rw [show lo + (j - 1) = lo + j - 1 by omega]
      exact g
theorem Fal.more {xs : Array Keyed} {lo n : Nat} (h : Fal κ xs lo n) (h1 : 1 ≤ n) (g : κ.kle (KK κ xs (lo + n)) (KK κ xs (lo + n - 1))) : Fal κ xs lo (n + 1) := fun i j hij hj => by
  by_cases hjn : j < n
  · exact h i j hij hjn
  · obtain rfl : j = n := by omega
    by_cases hi : i = j
    · rw [hi]; exact KeyOrd.kle_refl _
    · refine KeyOrd.kle_trans ?_ (h i (j - 1) (by omega) (by omega))
      rw [show lo + (j - 1) = lo + j - 1 by omega]
      exact g
theorem Fal.keys {xs ys : Array Keyed} {lo n : Nat} (h : Fal κ xs lo n) (e : ∀ k, KK κ ys k = KK κ xs k) : Fal κ ys lo n := fun i j hij hj => by
  rw [e, e]; exact h i j hij hj
theorem wp_ascL {st : SortSt} {lo a m : Nat} {Q : Option (Option Nat) × Nat → SortSt → Prop} (hO : κ.OneLt) (h0 : KeysOf κ a₀) (hn : lo + m ≤ a₀.size) (ha : 1 ≤ a) (ham : a ≤ m) (hB : SB a₀ st) (hs : Seg κ (arrOf st) lo a)
    (h : ∀ n, a ≤ n → n ≤ m → Seg κ (arrOf st) lo n → (n = m ∨ κ.klt (KK κ (arrOf st) (lo + n)) (KK κ (arrOf st) (lo + n - 1))) → Q (none, n) st) : wpS (model prog w) A E s (ascL lo a m) Q st := by
  unfold ascL
  refine wpS_forRange (I := fun x c st' => st' = st ∧ c = (none, x) ∧ Seg κ (arrOf st) lo x) ?step ?fin ⟨rfl, rfl, hs⟩
  case fin =>
    rintro c st' ⟨rfl, rfl, g⟩
    rw [show max a m = m by omega] at g ⊢
    exact h m ham (Nat.le_refl _) g (.inl rfl)
  case step =>
    rintro x c st' hax hxm ⟨rfl, rfl, g⟩
    dsimp only
    refine wpS_bind (lt_at hO hB h0 (by omega) (by omega) ?_)
    cases hb : κ.blt (KK κ (arrOf st') (lo + x)) (KK κ (arrOf st') (lo + x - 1)) with
    | true =>
      simp only [if_true]
      exact wpS_pure (h x hax (by omega) g (.inr hb))
    | false =>
      simp only [Bool.false_eq_true, if_false]
      exact wpS_pure ⟨rfl, rfl, g.more (by omega) hb⟩
theorem wp_rev {st : SortSt} {lo hi i j : Nat} {Q : Unit → SortSt → Prop} (hB : SB a₀ st) (hj : j ≤ a₀.size) (a : lo ≤ i) (b : j ≤ hi)
    (h : Stp a₀ lo hi st (setArr st (mirror (arrOf st) i j ((j - i) / 2))) → Q () (setArr st (mirror (arrOf st) i j ((j - i) / 2)))) : wpS (model prog w) A E s (reverseSlice' i j) Q st :=
  wpS_reverse (h (Stp.arr hB (mirror_perm _ _ _ _) ((out_mirror (by rw [hB.size]; exact hj)).mono a b)))
theorem wp_tailL {st : SortSt} {lo n m : Nat} {Q : Option Nat → SortSt → Prop} (hO : κ.OneLt) (h0 : KeysOf κ a₀) (hn : lo + m ≤ a₀.size) (h1 : 1 ≤ n) (hnm : n ≤ m) (hB : SB a₀ st) (hs : Fal κ (arrOf st) lo n)
    (h : ∀ k st', Stp a₀ lo (lo + m) st st' → 1 ≤ k → k ≤ m → Seg κ (arrOf st') lo k → Q (some k) st') : wpS (model prog w) A E s (tailL lo n m) Q st := by
  unfold tailL
  have hsz : lo + n ≤ (arrOf st).size := by rw [hB.size]; omega
  refine wpS_bind (wp_rev (lo := lo) (hi := lo + m) hB (by omega) (Nat.le_refl _) (by omega) fun S => ?_)
  refine wpS_bind (wp_ascL hO h0 hn h1 hnm S.b ?_ fun k hk1 hk2 hk3 _ => wpS_pure (h k _ S (by omega) hk2 hk3))
  intro i j hij hj
  show κ.kle (KK κ (mirror (arrOf st) lo (lo + n) ((lo + n - lo) / 2)) (lo + i)) (KK κ (mirror (arrOf st) lo (lo + n) ((lo + n - lo) / 2)) (lo + j))
  rw [KK_mirror hsz, KK_mirror hsz, if_pos (by omega), if_pos (by omega)]
  have := hs (n - 1 - j) (n - 1 - i) (by omega) (by omega)
  rw [show lo + (lo + n) - 1 - (lo + i) = lo + (n - 1 - i) by omega, show lo + (lo + n) - 1 - (lo + j) = lo + (n - 1 - j) by omega]
  exact this
theorem wp_descL {st : SortSt} {lo n m : Nat} {Q : Option (Option Nat) × Nat × Nat → SortSt → Prop} (hO : κ.OneLt) (h0 : KeysOf κ a₀) (hn : lo + m ≤ a₀.size) (h1 : 1 ≤ n) (hnm : n ≤ m) (hB : SB a₀ st) (hs : Fal κ (arrOf st) lo n)
    (h : ∀ k q st', Stp a₀ lo (lo + m) st st' → n ≤ k → k ≤ m → Fal κ (arrOf st') lo k → q + 1 ≤ k → (∀ i, lo + k - (q + 1) ≤ i → i < lo + k → KK κ (arrOf st') i = KK κ (arrOf st') (lo + k - 1)) → Q (none, k, q) st') : wpS (model prog w) A E s (descL lo n m) Q st := by
  unfold descL
  refine wpS_forRange (I := fun x c st' => ∃ q, c = (none, x, q) ∧ Stp a₀ lo (lo + m) st st' ∧ Fal κ (arrOf st') lo x ∧ q + 1 ≤ x ∧ (∀ i, lo + x - (q + 1) ≤ i → i < lo + x → KK κ (arrOf st') i = KK κ (arrOf st') (lo + x - 1))) ?step ?fin ⟨0, rfl, Stp.refl hB, hs, by omega, fun i _ _ => by congr 1; omega⟩
  case fin =>
    rintro c st' ⟨q, rfl, S, g, hq, he⟩
    rw [show max n m = m by omega] at g hq he ⊢
    exact h m q st' S hnm (Nat.le_refl _) g hq he
  case step =>
    rintro x c st' hax hxm ⟨q, rfl, S, g, hq, he⟩
    dsimp only
    have hsz : lo + x ≤ (arrOf st').size := by rw [S.b.size]; omega
    refine wpS_bind (lt_at hO S.b h0 (by omega) (by omega) ?_)
    cases hb : κ.blt (KK κ (arrOf st') (lo + x)) (KK κ (arrOf st') (lo + x - 1)) with
    | true =>
      simp only [if_true]
      have g2 : Fal κ (arrOf st') lo (x + 1) := g.more (by omega) (KeyOrd.kle_of_klt hb)
      by_cases hq0 : q > 0
      · rw [if_pos hq0]
        refine wpS_bind (wp_rev (lo := lo) (hi := lo + m) S.b (by omega) (by omega) (by omega) fun S2 => wpS_pure ⟨0, rfl, S.trans S2, g2.keys (KK_mirror_equal hsz he), by omega, fun i _ _ => by congr 1; omega⟩)
      · rw [if_neg hq0]
        exact wpS_pure ⟨0, rfl, S, g2, by omega, fun i _ _ => by congr 1; omega⟩
    | false =>
      simp only [Bool.false_eq_true, if_false]
      refine wpS_bind (lt_at hO S.b h0 (by omega) (by omega) ?_)
      cases hb2 : κ.blt (KK κ (arrOf st') (lo + x - 1)) (KK κ (arrOf st') (lo + x)) with
      | true =>
        simp only [if_true]
        exact wpS_pure (h x q st' S hax (by omega) g hq he)
      | false =>
        simp only [Bool.false_eq_true, if_false]
        have heq : KK κ (arrOf st') (lo + x) = KK κ (arrOf st') (lo + x - 1) := KeyOrd.kle_antisymm hb2 hb
        refine wpS_pure ⟨q + 1, rfl, S, g.more (by omega) hb2, by omega, fun i i1 i2 => ?_⟩
        rw [show lo + (x + 1) - 1 = lo + x by omega]
        by_cases hix : i = lo + x
        · rw [hix]
        · rw [heq]; exact he i (by omega) (by omega)
theorem wp_partL {st : SortSt} {lo n m : Nat} {Q : Option Nat → SortSt → Prop} (hO : κ.OneLt) (h0 : KeysOf κ a₀) (hn : lo + m ≤ a₀.size) (hnm : n + 1 ≤ m) (hB : SB a₀ st) (hs : Fal κ (arrOf st) lo (n + 1))
    (h : ∀ k st', Stp a₀ lo (lo + m) st st' → 1 ≤ k → k ≤ m → Seg κ (arrOf st') lo k → Q (some k) st') : wpS (model prog w) A E s (partL lo n m) Q st := by
  unfold partL
  refine wpS_bind (wpS_lift (wpAny_rule ⟨rfl, ?_⟩))
  refine wpS_bind (wp_descL hO h0 hn (by omega) hnm hB hs fun k q st' S hk1 hk2 g hq he => ?_)
  dsimp only
  have hsz : lo + k ≤ (arrOf st').size := by rw [S.b.size]; omega
  by_cases hq0 : q > 0
  · rw [if_pos hq0]
    refine wpS_bind (wp_rev (lo := lo) (hi := lo + m) S.b (by omega) (by omega) (by omega) fun S2 => wp_tailL hO h0 hn (by omega) hk2 S2.b (g.keys (KK_mirror_equal hsz he)) fun k2 st2 S3 a b c => h k2 st2 (S.trans (S2.trans S3)) a b c)
  · rw [if_neg hq0]
    exact wp_tailL hO h0 hn (by omega) hk2 S.b g fun k2 st2 S3 a b c => h k2 st2 (S.trans S3) a b c
theorem wp_countL {st : SortSt} {lo m : Nat} {Q : Option Nat → SortSt → Prop} (hO : κ.OneLt) (h0 : KeysOf κ a₀) (hn : lo + m ≤ a₀.size) (h1 : 1 ≤ m) (hB : SB a₀ st)
    (h : ∀ k st', Stp a₀ lo (lo + m) st st' → 1 ≤ k → k ≤ m → Seg κ (arrOf st') lo k → Q (some k) st') : wpS (model prog w) A E s (countRun' lo m) Q st := by
  rw [countL_eq]
  refine wpS_bind (wp_ascL hO h0 hn (Nat.le_refl 1) h1 hB seg_one fun n hn1 hn2 g hor => ?_)
  dsimp only
  by_cases hnm : n = m
  · rw [if_pos (by simpa using hnm)]
    exact wpS_pure (h n st (Stp.refl hB) hn1 hn2 g)
  · rw [if_neg (by simpa using hnm)]
    have hlt : κ.klt (KK κ (arrOf st) (lo + n)) (KK κ (arrOf st) (lo + n - 1)) := hor.resolve_left hnm
    by_cases hgt : n > 1
    · rw [if_pos hgt]
      refine wpS_bind (lt_at hO hB h0 (by omega) (by omega) ?_)
      cases hb : κ.blt (KK κ (arrOf st) lo) (KK κ (arrOf st) (lo + n - 1)) with
      | true =>
        simp only [if_true]
        exact wpS_pure (h n st (Stp.refl hB) hn1 hn2 g)
      | false =>
        simp only [Bool.false_eq_true, if_false]
        have hsz : lo + n ≤ (arrOf st).size := by rw [hB.size]; omega
        have hall : ∀ k, lo ≤ k → k < lo + n → KK κ (arrOf st) k = KK κ (arrOf st) (lo + n - 1) := fun k a b => by
          have a1 := g 0 (k - lo) (by omega) (by omega)
          have a2 := g (k - lo) (n - 1) (by omega) (by omega)
          rw [Nat.add_zero, show lo + (k - lo) = k by omega] at a1
          rw [show lo + (k - lo) = k by omega, show lo + (n - 1) = lo + n - 1 by omega] at a2
          exact KeyOrd.kle_antisymm a2 (KeyOrd.kle_trans hb a1)
        have hf : Fal κ (arrOf st) lo n := fun i j hij hj => by rw [hall (lo + i) (by omega) (by omega), hall (lo + j) (by omega) (by omega)]; exact KeyOrd.kle_refl _
        refine wpS_bind (wp_rev (lo := lo) (hi := lo + m) hB (by omega) (Nat.le_refl _) (by omega) fun S => wp_partL hO h0 hn (by omega) S.b ?_ fun k st2 S2 a b c => h k st2 (S.trans S2) a b c)
        exact (hf.more (by omega) (KeyOrd.kle_of_klt hlt)).keys (KK_mirror_equal hsz hall)
    · rw [if_neg hgt]
      obtain rfl : n = 1 := by omega
      refine wp_partL hO h0 hn (by omega) hB ?_ h
      have hf : Fal κ (arrOf st) lo 1 := fun i j hij hj => by
        obtain rfl : i = j := by omega
        exact KeyOrd.kle_refl _
      exact hf.more (Nat.le_refl _) (KeyOrd.kle_of_klt hlt)
theorem wp_binL {st : SortSt} {lo n ok : Nat} {Q : Bool → SortSt → Prop} (hO : κ.OneLt) (h0 : KeysOf κ a₀) (hn : lo + n ≤ a₀.size) (hok : ok ≤ n) (hB : SB a₀ st) (hs : Seg κ (arrOf st) lo ok)
    (h : ∀ st', Stp a₀ lo (lo + n) st st' → Seg κ (arrOf st') lo n → Q true st') : wpS (model prog w) A E s (binarySort' lo n ok) Q st := by
  rw [binarySort'_eq]
  refine wpS_bind (wpS_mono (wpS_forRange (I := fun k c st' => c = (none, ()) ∧ Stp a₀ lo (lo + n) st st' ∧ Seg κ (arrOf st') lo (min k n)) (Q := fun c st' => c = (none, ()) ∧ Stp a₀ lo (lo + n) st st' ∧ Seg κ (arrOf st') lo n) ?step ?fin ?init) ?post)
  case post =>
    rintro c st' ⟨rfl, S, g⟩
    exact wpS_pure (h st' S g)
  case init =>
    refine ⟨rfl, Stp.refl hB, fun i j hij hj => ?_⟩
    by_cases z : ok = 0
    · obtain rfl : i = j := by omega
      exact KeyOrd.kle_refl _
    · exact hs i j hij (by omega)
  case fin =>
    rintro c st' ⟨hc, S, g⟩
    refine ⟨hc, S, ?_⟩
    rwa [show min (max (max ok 1) n) n = n by omega] at g
  case step =>
    rintro k c st' hak hkn ⟨rfl, S, g⟩
    rw [show min k n = k by omega] at g
    refine wpS_bind (wpS_mono (wpS_forRange (I := fun x c st2 => st2 = st' ∧ ∃ l r, c = (none, l, r) ∧ l ≤ r ∧ r ≤ k ∧ r - l ≤ k - x ∧
        (∀ i, i < l → κ.kle (KK κ (arrOf st') (lo + i)) (KK κ (arrOf st') (lo + k))) ∧ (∀ i, r ≤ i → i < k → κ.klt (KK κ (arrOf st') (lo + k)) (KK κ (arrOf st') (lo + i))))
      (Q := fun c st2 => st2 = st' ∧ ∃ l r, c = (none, l, r) ∧ l ≤ k ∧ (∀ i, i < l → κ.kle (KK κ (arrOf st') (lo + i)) (KK κ (arrOf st') (lo + k))) ∧ (∀ i, l ≤ i → i < k → κ.klt (KK κ (arrOf st') (lo + k)) (KK κ (arrOf st') (lo + i)))) ?istep ?ifin ?iinit) ?ipost)
    case iinit => exact ⟨rfl, 0, k, rfl, by omega, by omega, by omega, fun i hi => by omega, fun i _ _ => by omega⟩
    case ifin =>
      rintro c st2 ⟨rfl, l, r, rfl, hlr, hrk, hm, hlo, hhi⟩
      obtain rfl : l = r := by omega
      exact ⟨rfl, l, l, rfl, hrk, hlo, hhi⟩
    case istep =>
      rintro x c st2 _ hxk ⟨rfl, l, r, rfl, hlr, hrk, hm, hlo, hhi⟩
      dsimp only
      by_cases hge : l ≥ r
      · rw [if_pos hge]
        obtain rfl : l = r := by omega
        exact wpS_pure ⟨rfl, l, l, rfl, hrk, hlo, hhi⟩
      · rw [if_neg hge]
        refine wpS_bind (lt_at hO S.b h0 (by omega) (by omega) ?_)
        cases hb : κ.blt (KK κ (arrOf st2) (lo + k)) (KK κ (arrOf st2) (lo + (l + r) / 2)) with
        | true =>
          simp only [if_true]
          exact wpS_pure ⟨rfl, l, (l + r) / 2, rfl, by omega, by omega, by omega, hlo, fun i i1 i2 => KeyOrd.klt_of_klt_of_kle hb (g _ _ i1 i2)⟩
        | false =>
          simp only [Bool.false_eq_true, if_false]
          exact wpS_pure ⟨rfl, (l + r) / 2 + 1, r, rfl, by omega, by omega, by omega, fun i i1 => KeyOrd.kle_trans (g i ((l + r) / 2) (by omega) (by omega)) (show κ.kle _ _ from hb), hhi⟩
    case ipost =>
      rintro c st2 ⟨rfl, l, r, rfl, hlk, hlo, hhi⟩
      dsimp only
      rw [moveDown'_eq]
      have hks : lo + k < (arrOf st2).size := by rw [S.b.size]; omega
      refine wpS_bind (wpS_modify (wpS_pure ⟨rfl, S.trans (Stp.arr S.b (bubble_perm _ _ _) ((out_bubble hks (by omega)).mono (by omega) (by omega))), ?_⟩))
      rw [show min (k + 1) n = k + 1 by omega]
      intro i j hij hj
      show κ.kle (KK κ (bubble (arrOf st2) (lo + k) (lo + k - (lo + l))) (lo + i)) (KK κ (bubble (arrOf st2) (lo + k) (lo + k - (lo + l))) (lo + j))
      rw [KK_bubble hks (by omega), KK_bubble hks (by omega), show lo + k - (lo + k - (lo + l)) = lo + l by omega]
      have ei : ∀ x, lo + l < lo + x → lo + x - 1 = lo + (x - 1) := fun x hx => by omega
      repeat' split
      all_goals first
        | (exfalso; omega)
        | exact KeyOrd.kle_refl _
        | exact hlo _ (by omega)
        | exact KeyOrd.kle_of_klt (hhi _ (by omega) (by omega))
        | exact g _ _ (by omega) (by omega)
        | (rw [ei j (by omega)]; first | exact KeyOrd.kle_of_klt (hhi _ (by omega) (by omega)) | exact g _ _ (by omega) (by omega))
        | (rw [ei i (by omega)]; exact g _ _ (by omega) (by omega))
        | (rw [ei i (by omega), ei j (by omega)]; exact g _ _ (by omega) (by omega))
end
end Zs
set_option Elab.async false
set_option linter.all false
set_option maxRecDepth 100000
set_option autoImplicit false
namespace Zs
open PySem PyProof.Rows
def gallop' : Bool → Keyed → Array Keyed → Nat → Nat → Nat → StateT SortSt Sem (Option Nat) := sortPriv% PySem.Builtin.gallop
def bey (lf : Bool) (ky : Keyed) (ar : Array Keyed) (bs i : Nat) : StateT SortSt Sem (Option Bool) := do
  let p ← elem' ar (bs + i)
  if lf = true then lt' p ky else do
    let r ← lt' ky p
    pure (Option.map (fun b => !b) r)
def gFin (lf : Bool) (ky : Keyed) (ar : Array Keyed) (bs n lo hi : Nat) : StateT SortSt Sem (Option Nat) := do
  let c ← forIn [0:n] ((none, lo, hi) : Option (Option Nat) × Nat × Nat) fun _ c =>
    if c.2.1 ≥ c.2.2 then pure (ForInStep.done (none, c.2.1, c.2.2)) else do
      let r ← bey lf ky ar bs (c.2.1 + (c.2.2 - c.2.1) / 2)
      match r with
      | some b => if b = true then pure (ForInStep.yield (none, c.2.1 + (c.2.2 - c.2.1) / 2 + 1, c.2.2)) else pure (ForInStep.yield (none, c.2.1, c.2.1 + (c.2.2 - c.2.1) / 2))
      | _ => pure (ForInStep.done (some none, c.2.1, c.2.2))
  match c.1 with
  | some r => pure r
  | none => pure (some c.2.2)
def gUp (lf : Bool) (ky : Keyed) (ar : Array Keyed) (bs n h : Nat) : StateT SortSt Sem (Option (Option Nat) × Nat × Nat) := forIn [0:n] ((none, 0, 1) : Option (Option Nat) × Nat × Nat) fun _ c =>
  if c.2.2 ≥ n - h then pure (ForInStep.done (none, c.2.1, c.2.2)) else do
    let r ← bey lf ky ar bs (h + c.2.2)
    match r with
    | some b => if (!b) = true then pure (ForInStep.done (none, c.2.1, c.2.2)) else pure (ForInStep.yield (none, c.2.2, 2 * c.2.2 + 1))
    | _ => pure (ForInStep.done (some none, c.2.1, c.2.2))
def gDn (lf : Bool) (ky : Keyed) (ar : Array Keyed) (bs n h : Nat) : StateT SortSt Sem (Option (Option Nat) × Nat × Nat) := forIn [0:n] ((none, 0, 1) : Option (Option Nat) × Nat × Nat) fun _ c =>
  if c.2.2 ≥ h + 1 then pure (ForInStep.done (none, c.2.1, c.2.2)) else do
    let r ← bey lf ky ar bs (h - c.2.2)
    match r with
    | some b => if b = true then pure (ForInStep.done (none, c.2.1, c.2.2)) else pure (ForInStep.yield (none, c.2.2, 2 * c.2.2 + 1))
    | _ => pure (ForInStep.done (some none, c.2.1, c.2.2))
theorem gallopQ (lf : Bool) (ky : Keyed) (ar : Array Keyed) (bs n h : Nat) : gallop' lf ky ar bs n h = (do
    let r ← bey lf ky ar bs h
    match r with
    | some b =>
      if b = true then do
        let c ← gUp lf ky ar bs n h
        match c.1 with
        | some r => pure r
        | none => gFin lf ky ar bs n (h + c.2.1 + 1) (h + min c.2.2 (n - h))
      else do
        let c ← gDn lf ky ar bs n h
        match c.1 with
        | some r => pure r
        | none => gFin lf ky ar bs n (h + 1 - min c.2.2 (h + 1)) (h - c.2.1)
    | _ => pure none) := by
  refine bq rfl fun r => ?_
  cases r with
  | none => rfl
  | some b =>
    cases b with
    | true =>
      refine bq rfl fun c => ?_
      obtain ⟨r, l, o⟩ := c
      cases r with
      | some r => rfl
      | none =>
        refine bq rfl fun c => ?_
        obtain ⟨r, l, o⟩ := c
        cases r <;> rfl
    | false =>
      refine bq rfl fun c => ?_
      obtain ⟨r, l, o⟩ := c
      cases r with
      | some r => rfl
      | none =>
        refine bq rfl fun c => ?_
        obtain ⟨r, l, o⟩ := c
        cases r <;> rfl
section
variable {prog : Program} {w : World} {A : Around} {E : Value → Shared → Prop} {s : Shared} {κ : PyProof.Rows.KeyKind}
theorem wp_elem {st : SortSt} {ar : Array Keyed} {i : Nat} {p : Keyed} {Q : Keyed → SortSt → Prop} (hi : ar[i]? = some p) (h : Q p st) : wpS (model prog w) A E s (elem' ar i) Q st := by
  rw [elem'_eq, hi]
  exact wpS_pure h
theorem wp_lt {st : SortSt} {p q : Keyed} {a b : κ.α} {Q : Option Bool → SortSt → Prop} (hO : κ.OneLt) (hk : kindOf st = oneType') (ha : κ.keyOf p.1 = some a) (hb : κ.keyOf q.1 = some b) (h : Q (some (κ.blt a b)) st) : wpS (model prog w) A E s (lt' p q) Q st := by
  rw [lt'_eq]
  refine wpS_bind (wpS_get ?_)
  rw [hk, keyLt'_oneType]
  refine wpS_bind (wpS_lift (wpAny_attempt (hO prog w A _ s p.1 q.1 a b ha hb ⟨rfl, ?_⟩)))
  exact wpS_pure h
theorem wp_gFin {st : SortSt} {lf : Bool} {ky : Keyed} {ar : Array Keyed} {bs n lo hi : Nat} {B : Nat → Bool} {Q : Option Nat → SortSt → Prop} (mono : ∀ i j, i ≤ j → j < n → B j = true → B i = true)
    (hb : ∀ (i : Nat) (Q : Option Bool → SortSt → Prop), i < n → Q (some (B i)) st → wpS (model prog w) A E s (bey lf ky ar bs i) Q st) (hlh : lo ≤ hi) (hhn : hi ≤ n) (hlo : ∀ i, i < lo → B i = true) (hhi : ∀ i, hi ≤ i → i < n → B i = false)
    (q : ∀ k, k ≤ n → (∀ i, i < k → B i = true) → (∀ i, k ≤ i → i < n → B i = false) → Q (some k) st) : wpS (model prog w) A E s (gFin lf ky ar bs n lo hi) Q st := by
  unfold gFin
  refine wpS_bind (wpS_mono (wpS_forRange (I := fun x c st' => st' = st ∧ ∃ l r, c = (none, l, r) ∧ l ≤ r ∧ r ≤ n ∧ r - l ≤ n - x ∧ (∀ i, i < l → B i = true) ∧ (∀ i, r ≤ i → i < n → B i = false))
    (Q := fun c st' => st' = st ∧ ∃ r, c = (none, r, r) ∧ r ≤ n ∧ (∀ i, i < r → B i = true) ∧ (∀ i, r ≤ i → i < n → B i = false)) ?step ?fin ?init) ?post)
  case init => exact ⟨rfl, lo, hi, rfl, hlh, hhn, by omega, hlo, hhi⟩
  case fin =>
    rintro c st' ⟨rfl, l, r, rfl, h1, h2, h3, h4, h5⟩
    obtain rfl : l = r := by omega
    exact ⟨rfl, l, rfl, h2, h4, h5⟩
  case post =>
    rintro c st' ⟨rfl, r, rfl, h2, h4, h5⟩
    exact wpS_pure (q r h2 h4 h5)
  case step =>
    rintro x c st' _ hx ⟨rfl, l, r, rfl, h1, h2, h3, h4, h5⟩
    dsimp only
    by_cases hge : l ≥ r
    · rw [if_pos hge]
      obtain rfl : l = r := by omega
      exact wpS_pure ⟨rfl, l, rfl, h2, h4, h5⟩
    · rw [if_neg hge]
      refine wpS_bind (hb _ _ (by omega) ?_)
      dsimp only
      cases hB : B (l + (r - l) / 2) with
      | true =>
        rw [if_pos rfl]
        exact wpS_pure ⟨rfl, _, _, rfl, by omega, h2, by omega, fun i hi => mono i (l + (r - l) / 2) (by omega) (by omega) hB, h5⟩
      | false =>
        rw [if_neg (by decide)]
        refine wpS_pure ⟨rfl, _, _, rfl, by omega, by omega, by omega, h4, fun i hi hin => ?_⟩
        cases hBi : B i with
        | false => rfl
        | true => rw [mono _ i hi hin hBi] at hB; cases hB
theorem wp_gallop {st : SortSt} {lf : Bool} {ky : Keyed} {ar : Array Keyed} {bs n h : Nat} {B : Nat → Bool} {Q : Option Nat → SortSt → Prop} (mono : ∀ i j, i ≤ j → j < n → B j = true → B i = true)
    (hb : ∀ (i : Nat) (Q : Option Bool → SortSt → Prop), i < n → Q (some (B i)) st → wpS (model prog w) A E s (bey lf ky ar bs i) Q st) (hn : h < n)
    (q : ∀ k, k ≤ n → (∀ i, i < k → B i = true) → (∀ i, k ≤ i → i < n → B i = false) → Q (some k) st) : wpS (model prog w) A E s (gallop' lf ky ar bs n h) Q st := by
  rw [gallopQ]
  refine wpS_bind (hb _ _ hn ?_)
  dsimp only
  cases hB : B h with
  | true =>
    rw [if_pos rfl]
    unfold gUp
    refine wpS_bind (wpS_mono (wpS_forRange (I := fun x c st' => st' = st ∧ ∃ l o, c = (none, l, o) ∧ l < o ∧ x + 1 ≤ o ∧ h + l < n ∧ B (h + l) = true)
      (Q := fun c st' => st' = st ∧ ∃ l o, c = (none, l, o) ∧ l < o ∧ h + l < n ∧ B (h + l) = true ∧ (n - h ≤ o ∨ B (h + o) = false)) ?step ?fin ?init) ?post)
    case init => exact ⟨rfl, 0, 1, rfl, by omega, by omega, by omega, hB⟩
    case fin =>
      rintro c st' ⟨rfl, l, o, rfl, h1, h2, h3, h4⟩
      exact ⟨rfl, l, o, rfl, h1, h3, h4, .inl (by omega)⟩
    case post =>
      rintro c st' ⟨rfl, l, o, rfl, h1, h3, h4, h5⟩
      dsimp only
      refine wp_gFin mono hb (by omega) (by omega) (fun i hi => mono i (h + l) (by omega) h3 h4) (fun i hi hin => ?_) q
      rcases h5 with h5 | h5
      · omega
      · cases hBi : B i with
        | false => rfl
        | true =>
          by_cases g : n - h ≤ o
          · omega
          · rw [mono _ i (by omega) hin hBi] at h5; cases h5
    case step =>
      rintro x c st' _ hx ⟨rfl, l, o, rfl, h1, h2, h3, h4⟩
      dsimp only
      by_cases hge : o ≥ n - h
      · rw [if_pos hge]
        exact wpS_pure ⟨rfl, l, o, rfl, h1, h3, h4, .inl hge⟩
      · rw [if_neg hge]
        refine wpS_bind (hb _ _ (by omega) ?_)
        dsimp only
        cases hBo : B (h + o) with
        | true =>
          rw [if_neg (by decide)]
          exact wpS_pure ⟨rfl, o, 2 * o + 1, rfl, by omega, by omega, by omega, hBo⟩
        | false =>
          rw [if_pos (by decide)]
          exact wpS_pure ⟨rfl, l, o, rfl, h1, h3, h4, .inr hBo⟩
  | false =>
    rw [if_neg (by decide)]
    unfold gDn
    refine wpS_bind (wpS_mono (wpS_forRange (I := fun x c st' => st' = st ∧ ∃ l o, c = (none, l, o) ∧ l < o ∧ x + 1 ≤ o ∧ l ≤ h ∧ B (h - l) = false)
      (Q := fun c st' => st' = st ∧ ∃ l o, c = (none, l, o) ∧ l < o ∧ l ≤ h ∧ B (h - l) = false ∧ (h + 1 ≤ o ∨ B (h - o) = true)) ?step ?fin ?init) ?post)
    case init => exact ⟨rfl, 0, 1, rfl, by omega, by omega, by omega, hB⟩
    case fin =>
      rintro c st' ⟨rfl, l, o, rfl, h1, h2, h3, h4⟩
      exact ⟨rfl, l, o, rfl, h1, h3, h4, .inl (by omega)⟩
    case post =>
      rintro c st' ⟨rfl, l, o, rfl, h1, h3, h4, h5⟩
      dsimp only
      refine wp_gFin mono hb (by omega) (by omega) (fun i hi => ?_) (fun i hi hin => ?_) q
      · rcases h5 with h5 | h5
        · omega
        · exact mono i (h - o) (by omega) (by omega) h5
      · cases hBi : B i with
        | false => rfl
        | true => rw [mono _ i hi hin hBi] at h4; cases h4
    case step =>
      rintro x c st' _ hx ⟨rfl, l, o, rfl, h1, h2, h3, h4⟩
      dsimp only
      by_cases hge : o ≥ h + 1
      · rw [if_pos hge]
        exact wpS_pure ⟨rfl, l, o, rfl, h1, h3, h4, .inl hge⟩
      · rw [if_neg hge]
        refine wpS_bind (hb _ _ (by omega) ?_)
        dsimp only
        cases hBo : B (h - o) with
        | true =>
          rw [if_pos rfl]
          exact wpS_pure ⟨rfl, l, o, rfl, h1, h3, h4, .inr hBo⟩
        | false =>
          rw [if_neg (by decide)]
          exact wpS_pure ⟨rfl, o, 2 * o + 1, rfl, by omega, by omega, by omega, hBo⟩
end
end Zs
set_option Elab.async false
set_option linter.all false
set_option maxRecDepth 100000
set_option autoImplicit false
namespace Zs
open PySem PyProof.Rows
def kyOf (κ : PyProof.Rows.KeyKind) (p : Keyed) : κ.α := (κ.keyOf p.1).getD κ.dflt
def R (κ : PyProof.Rows.KeyKind) (p q : Keyed) : Prop := κ.kle (kyOf κ p) (kyOf κ q)
theorem R.trans {κ : PyProof.Rows.KeyKind} {p q r : Keyed} (h : R κ p q) (g : R κ q r) : R κ p r := KeyOrd.kle_trans h g
structure Mg (κ : PyProof.Rows.KeyKind) (a b o : List Keyed) (i j : Nat) : Prop where
  pw : o.Pairwise (R κ)
  pm : o.Perm (a.take i ++ b.take j)
  le : ∀ p ∈ o, ∀ q ∈ a.drop i ++ b.drop j, R κ p q
def Good (κ : PyProof.Rows.KeyKind) (a b o : List Keyed) : Prop := o.Perm (a ++ b) ∧ o.Pairwise (R κ)
theorem tk_add (l : List Keyed) (i k : Nat) : l.take (i + k) = l.take i ++ (l.drop i).take k := List.take_add
theorem Mg.a {κ : PyProof.Rows.KeyKind} {a b o : List Keyed} {i j : Nat} (h : Mg κ a b o i j) (ha : a.Pairwise (R κ)) (k : Nat) (hk : ∀ p ∈ (a.drop i).take k, ∀ q ∈ b.drop j, R κ p q) : Mg κ a b (o ++ (a.drop i).take k) (i + k) j := by
  have hd : (a.drop i).Pairwise (R κ) := ha.sublist (List.drop_sublist _ _)
  have hsp : (a.drop i).take k ++ a.drop (i + k) = a.drop i := by rw [← List.drop_drop, List.take_append_drop]
  rw [← hsp, List.pairwise_append] at hd
  refine ⟨?_, ?_, fun p hp q hq => ?_⟩
  · rw [List.pairwise_append]
    exact ⟨h.pw, hd.1, fun p hp q hq => h.le p hp q (List.mem_append_left _ (List.mem_of_mem_take hq))⟩
  · rw [tk_add]
    refine (h.pm.append_right _).trans ?_
    rw [List.append_assoc, List.append_assoc]
    exact List.Perm.append_left _ List.perm_append_comm
  · rcases List.mem_append.mp hp with hp | hp
    · refine h.le p hp q ?_
      rcases List.mem_append.mp hq with hq | hq
      · exact List.mem_append_left _ (by rw [← hsp]; exact List.mem_append_right _ hq)
      · exact List.mem_append_right _ hq
    · rcases List.mem_append.mp hq with hq | hq
      · exact hd.2.2 p hp q hq
      · exact hk p hp q hq
theorem Mg.b {κ : PyProof.Rows.KeyKind} {a b o : List Keyed} {i j : Nat} (h : Mg κ a b o i j) (hb : b.Pairwise (R κ)) (k : Nat) (hk : ∀ p ∈ (b.drop j).take k, ∀ q ∈ a.drop i, R κ p q) : Mg κ a b (o ++ (b.drop j).take k) i (j + k) := by
  have hd : (b.drop j).Pairwise (R κ) := hb.sublist (List.drop_sublist _ _)
  have hsp : (b.drop j).take k ++ b.drop (j + k) = b.drop j := by rw [← List.drop_drop, List.take_append_drop]
  rw [← hsp, List.pairwise_append] at hd
  refine ⟨?_, ?_, fun p hp q hq => ?_⟩
  · rw [List.pairwise_append]
    exact ⟨h.pw, hd.1, fun p hp q hq => h.le p hp q (List.mem_append_right _ (List.mem_of_mem_take hq))⟩
  · rw [tk_add, ← List.append_assoc]
    exact h.pm.append_right _
  · rcases List.mem_append.mp hp with hp | hp
    · refine h.le p hp q ?_
      rcases List.mem_append.mp hq with hq | hq
      · exact List.mem_append_left _ hq
      · exact List.mem_append_right _ (by rw [← hsp]; exact List.mem_append_right _ hq)
    · rcases List.mem_append.mp hq with hq | hq
      · exact hk p hp q hq
      · exact hd.2.2 p hp q hq
theorem Mg.done {κ : PyProof.Rows.KeyKind} {a b o : List Keyed} {i j : Nat} (h : Mg κ a b o i j) (ha : a.Pairwise (R κ)) (hb : b.Pairwise (R κ)) (g : ∀ p ∈ a.drop i, ∀ q ∈ b.drop j, R κ p q) : Good κ a b (o ++ a.drop i ++ b.drop j) := by
  refine ⟨?_, ?_⟩
  · have h1 : (o ++ a.drop i ++ b.drop j).Perm (a.take i ++ b.take j ++ a.drop i ++ b.drop j) := (h.pm.append_right _).append_right _
    refine h1.trans ?_
    rw [List.append_assoc (a.take i), List.append_assoc]
    refine (List.Perm.append_left _ (List.Perm.append_right _ List.perm_append_comm)).trans ?_
    rw [List.append_assoc (a.drop i), List.take_append_drop, ← List.append_assoc, List.take_append_drop]
  · rw [List.append_assoc, List.pairwise_append, List.pairwise_append]
    exact ⟨h.pw, ⟨ha.sublist (List.drop_sublist _ _), hb.sublist (List.drop_sublist _ _), g⟩, fun p hp q hq => h.le p hp q hq⟩
theorem Mg.last {κ : PyProof.Rows.KeyKind} {a b o : List Keyed} {i j : Nat} (h : Mg κ a b o i j) (ha : a.Pairwise (R κ)) (hb : b.Pairwise (R κ)) (g : ∀ p ∈ b.drop j, ∀ q ∈ a.drop i, R κ p q) : Good κ a b (o ++ b.drop j ++ a.drop i) := by
  refine ⟨?_, ?_⟩
  · have h1 : (o ++ b.drop j ++ a.drop i).Perm (a.take i ++ b.take j ++ b.drop j ++ a.drop i) := (h.pm.append_right _).append_right _
    refine h1.trans ?_
    rw [List.append_assoc (a.take i), List.take_append_drop, List.append_assoc]
    refine (List.Perm.append_left _ List.perm_append_comm).trans ?_
    rw [← List.append_assoc, List.take_append_drop]
  · rw [List.append_assoc, List.pairwise_append, List.pairwise_append]
    exact ⟨h.pw, ⟨hb.sublist (List.drop_sublist _ _), ha.sublist (List.drop_sublist _ _), g⟩, fun p hp q hq => h.le p hp q (by
      rcases List.mem_append.mp hq with hq | hq
      · exact List.mem_append_right _ hq
      · exact List.mem_append_left _ hq)⟩
structure Mh (κ : PyProof.Rows.KeyKind) (a b o : List Keyed) (i j : Nat) : Prop where
  pw : o.Pairwise (R κ)
  pm : o.Perm (a.drop i ++ b.drop j)
  le : ∀ p ∈ a.take i ++ b.take j, ∀ q ∈ o, R κ p q
theorem tk_split {l : List Keyed} {i k : Nat} (h : k ≤ i) : l.take k ++ (l.take i).drop k = l.take i := by
  have := List.take_append_drop k (l.take i)
  rwa [List.take_take, Nat.min_eq_left h] at this
theorem dr_split {l : List Keyed} {i k : Nat} (h : k ≤ i) : (l.take i).drop k ++ l.drop i = l.drop k := by
  have h1 : l.take i ++ l.drop i = l := List.take_append_drop i l
  by_cases hl : k ≤ (l.take i).length
  · conv => rhs; rw [← h1]
    rw [List.drop_append_of_le_length hl]
  · rw [List.length_take] at hl
    rw [List.drop_eq_nil_of_le (by rw [List.length_take]; omega), List.drop_eq_nil_of_le (as := l) (i := i) (by omega), List.drop_eq_nil_of_le (as := l) (i := k) (by omega)]
    rfl
theorem Mh.a {κ : PyProof.Rows.KeyKind} {a b o : List Keyed} {i j : Nat} (h : Mh κ a b o i j) (ha : a.Pairwise (R κ)) {k : Nat} (hki : k ≤ i) (hk : ∀ q ∈ (a.take i).drop k, ∀ p ∈ b.take j, R κ p q) : Mh κ a b ((a.take i).drop k ++ o) k j := by
  have hd : (a.take i).Pairwise (R κ) := ha.sublist (List.take_sublist _ _)
  have hsp := tk_split (l := a) hki
  rw [← hsp, List.pairwise_append] at hd
  refine ⟨?_, ?_, fun p hp q hq => ?_⟩
  · rw [List.pairwise_append]
    exact ⟨hd.2.1, h.pw, fun p hp q hq => h.le p (List.mem_append_left _ (List.mem_of_mem_drop hp)) q hq⟩
  · refine (List.Perm.append_left _ h.pm).trans ?_
    rw [← List.append_assoc, dr_split hki]
  · rcases List.mem_append.mp hq with hq | hq
    · rcases List.mem_append.mp hp with hp | hp
      · exact hd.2.2 p hp q hq
      · exact hk q hq p hp
    · refine h.le p ?_ q hq
      rcases List.mem_append.mp hp with hp | hp
      · exact List.mem_append_left _ (by rw [← hsp]; exact List.mem_append_left _ hp)
      · exact List.mem_append_right _ hp
theorem Mh.b {κ : PyProof.Rows.KeyKind} {a b o : List Keyed} {i j : Nat} (h : Mh κ a b o i j) (hb : b.Pairwise (R κ)) {k : Nat} (hkj : k ≤ j) (hk : ∀ q ∈ (b.take j).drop k, ∀ p ∈ a.take i, R κ p q) : Mh κ a b ((b.take j).drop k ++ o) i k := by
  have hd : (b.take j).Pairwise (R κ) := hb.sublist (List.take_sublist _ _)
  have hsp := tk_split (l := b) hkj
  rw [← hsp, List.pairwise_append] at hd
  refine ⟨?_, ?_, fun p hp q hq => ?_⟩
  · rw [List.pairwise_append]
    exact ⟨hd.2.1, h.pw, fun p hp q hq => h.le p (List.mem_append_right _ (List.mem_of_mem_drop hp)) q hq⟩
  · refine (List.Perm.append_left _ h.pm).trans ?_
    rw [← dr_split (l := b) hkj, ← List.append_assoc, ← List.append_assoc]
    exact List.Perm.append_right _ List.perm_append_comm
  · rcases List.mem_append.mp hq with hq | hq
    · rcases List.mem_append.mp hp with hp | hp
      · exact hk q hq p hp
      · exact hd.2.2 p hp q hq
    · refine h.le p ?_ q hq
      rcases List.mem_append.mp hp with hp | hp
      · exact List.mem_append_left _ hp
      · exact List.mem_append_right _ (by rw [← hsp]; exact List.mem_append_left _ hp)
theorem Mh.done {κ : PyProof.Rows.KeyKind} {a b o : List Keyed} {i j : Nat} (h : Mh κ a b o i j) (ha : a.Pairwise (R κ)) (hb : b.Pairwise (R κ)) (g : ∀ p ∈ a.take i, ∀ q ∈ b.take j, R κ p q) : Good κ a b (a.take i ++ b.take j ++ o) := by
  refine ⟨?_, ?_⟩
  · refine (List.Perm.append_left _ h.pm).trans ?_
    rw [List.append_assoc (a.take i), ← List.append_assoc (b.take j)]
    refine (List.Perm.append_left _ (List.Perm.append_right _ List.perm_append_comm)).trans ?_
    rw [List.append_assoc (a.drop i), List.take_append_drop, ← List.append_assoc, List.take_append_drop]
  · rw [List.pairwise_append, List.pairwise_append]
    exact ⟨⟨ha.sublist (List.take_sublist _ _), hb.sublist (List.take_sublist _ _), g⟩, h.pw, fun p hp q hq => h.le p hp q hq⟩
theorem Mh.first {κ : PyProof.Rows.KeyKind} {a b o : List Keyed} {i j : Nat} (h : Mh κ a b o i j) (ha : a.Pairwise (R κ)) (hb : b.Pairwise (R κ)) (g : ∀ p ∈ b.take j, ∀ q ∈ a.take i, R κ p q) : Good κ a b (b.take j ++ a.take i ++ o) := by
  refine ⟨?_, ?_⟩
  · refine (List.Perm.append_left _ h.pm).trans ?_
    refine (List.Perm.append_right _ List.perm_append_comm).trans ?_
    rw [List.append_assoc (a.take i), ← List.append_assoc (b.take j)]
    refine (List.Perm.append_left _ (List.Perm.append_right _ List.perm_append_comm)).trans ?_
    rw [List.append_assoc (a.drop i), List.take_append_drop, ← List.append_assoc, List.take_append_drop]
  · rw [List.pairwise_append, List.pairwise_append]
    exact ⟨⟨hb.sublist (List.take_sublist _ _), ha.sublist (List.take_sublist _ _), g⟩, h.pw, fun p hp q hq => h.le p (by
      rcases List.mem_append.mp hp with hp | hp
      · exact List.mem_append_right _ hp
      · exact List.mem_append_left _ hp) q hq⟩
theorem ex_list (a : Array Keyed) (i j : Nat) : (a.extract i j).toList = (a.toList.drop i).take (j - i) := by rw [Array.toList_extract, List.extract_eq_drop_take]
theorem at_list {a : Array Keyed} {i : Nat} {p : Keyed} (h : a[i]? = some p) : a.toList[i]? = some p := by rw [Array.getElem?_toList]; exact h
theorem dr_cons {l : List Keyed} {i : Nat} {p : Keyed} (h : l[i]? = some p) : l.drop i = p :: l.drop (i + 1) := by
  obtain ⟨hi, e⟩ := List.getElem?_eq_some_iff.mp h
  rw [List.drop_eq_getElem_cons hi, e]
theorem tk1 {l : List Keyed} {i : Nat} {p : Keyed} (h : l[i]? = some p) : (l.drop i).take 1 = [p] := by rw [dr_cons h]; rfl
/-- the first of what is to come is no greater than all of it -/
theorem hd_le {κ : PyProof.Rows.KeyKind} {l : List Keyed} (hl : l.Pairwise (R κ)) {i : Nat} {p : Keyed} (h : l[i]? = some p) : ∀ q ∈ l.drop i, R κ p q := fun q hq => by
  have := hl.sublist (List.drop_sublist i l)
  rw [dr_cons h] at this hq
  rcases List.mem_cons.mp hq with rfl | hq
  · exact KeyOrd.kle_refl _
  · exact (List.pairwise_cons.mp this).1 q hq
theorem tl_le {κ : PyProof.Rows.KeyKind} {l : List Keyed} (hl : l.Pairwise (R κ)) {i : Nat} {p : Keyed} (h : l[i]? = some p) : ∀ q ∈ l.take (i + 1), R κ q p := fun q hq => by
  have := hl.sublist (List.take_sublist (i + 1) l)
  rw [List.take_add_one, h] at this hq
  have h2 := List.pairwise_append.mp this
  rcases List.mem_append.mp hq with hq | hq
  · exact h2.2.2 q hq p List.mem_cons_self
  · rw [List.mem_singleton.mp hq]; exact KeyOrd.kle_refl _
end Zs
set_option Elab.async false
set_option linter.all false
set_option maxRecDepth 100000
set_option autoImplicit false
namespace Zs
open PySem PyProof.Rows
structure Sm (st st' : SortSt) : Prop where
  k : kindOf st' = kindOf st
  a : arrOf st' = arrOf st
  p : pendingOf st' = pendingOf st
  f : failedOf st' = failedOf st
theorem Sm.refl (st : SortSt) : Sm st st := ⟨rfl, rfl, rfl, rfl⟩
theorem Sm.trans {x y z : SortSt} (h : Sm x y) (g : Sm y z) : Sm x z := ⟨g.k.trans h.k, g.a.trans h.a, g.p.trans h.p, g.f.trans h.f⟩
def setMinGallop' : Nat → StateT SortSt Sem Unit := sortPriv% PySem.Builtin.setMinGallop
def mergeLo' : Array Keyed → Array Keyed → StateT SortSt Sem (Array Keyed) := sortPriv% PySem.Builtin.mergeLo
def mergeHi' : Array Keyed → Array Keyed → StateT SortSt Sem (Array Keyed) := sortPriv% PySem.Builtin.mergeHi
section
variable {prog : Program} {w : World} {A : Around} {E : Value → Shared → Prop} {s : Shared} {κ : PyProof.Rows.KeyKind}
theorem wp_setG {st : SortSt} {g : Nat} {Q : Unit → SortSt → Prop} (h : ∀ st', Sm st st' → Q () st') : wpS (model prog w) A E s (setMinGallop' g) Q st := by
  show wpS _ _ _ _ (modify (fun st => SortSt.mk' (kindOf st) (arrOf st) (pendingOf st) g (failedOf st))) Q st
  exact wpS_modify (h _ ⟨rfl, rfl, rfl, rfl⟩)
def Kd (κ : PyProof.Rows.KeyKind) (l : List Keyed) : Prop := ∀ p ∈ l, ∃ a, κ.keyOf p.1 = some a
theorem Kd.at {l : List Keyed} (h : Kd κ l) {p : Keyed} (hp : p ∈ l) : κ.keyOf p.1 = some (kyOf κ p) := by
  obtain ⟨a, ha⟩ := h p hp
  unfold kyOf; rw [ha]; rfl
theorem wp_ltR {st : SortSt} {p q : Keyed} {l : List Keyed} {Q : Option Bool → SortSt → Prop} (hO : κ.OneLt) (hk : kindOf st = oneType') (hl : Kd κ l) (hp : p ∈ l) (hq : q ∈ l) (h1 : κ.klt (kyOf κ p) (kyOf κ q) → Q (some true) st) (h2 : R κ q p → Q (some false) st) : wpS (model prog w) A E s (lt' p q) Q st := by
  refine wp_lt hO hk (hl.at hp) (hl.at hq) ?_
  cases h : κ.blt (kyOf κ p) (kyOf κ q) with
  | true => exact h1 h
  | false => exact h2 h
/-- right: how many are no greater than the key -/
theorem wp_gR {st : SortSt} {ky : Keyed} {ar : Array Keyed} {bs n h : Nat} {l : List Keyed} {Q : Option Nat → SortSt → Prop} (hO : κ.OneLt) (hk : kindOf st = oneType') (hl : Kd κ l) (hky : ky ∈ l) (har : ∀ p ∈ ar.toList, p ∈ l) (hn : bs + n ≤ ar.size) (hh : h < n)
    (hs : ((ar.toList.drop bs).take n).Pairwise (R κ)) (q : ∀ k, k ≤ n → (∀ p ∈ (ar.toList.drop bs).take k, R κ p ky) → (∀ p ∈ ((ar.toList.drop bs).take n).drop k, κ.klt (kyOf κ ky) (kyOf κ p)) → Q (some k) st) : wpS (model prog w) A E s (gallop' false ky ar bs n h) Q st := by
  have hlen : ((ar.toList.drop bs).take n).length = n := by rw [List.length_take, List.length_drop, Array.length_toList]; omega
  have hat : ∀ i, i < n → ∃ p, ar[bs + i]? = some p ∧ ((ar.toList.drop bs).take n)[i]? = some p ∧ p ∈ l := fun i hi => by
    have h1 : ar[bs + i]? = some ar[bs + i] := getElem?_pos ar (bs + i) (by omega)
    refine ⟨_, h1, ?_, har _ (by simp)⟩
    rw [List.getElem?_take_of_lt hi, List.getElem?_drop]
    exact at_list h1
  have hB : ∃ B : Nat → Bool, ∀ i p, ((ar.toList.drop bs).take n)[i]? = some p → B i = !κ.blt (kyOf κ ky) (kyOf κ p) := ⟨fun i => match ((ar.toList.drop bs).take n)[i]? with | some p => !κ.blt (kyOf κ ky) (kyOf κ p) | none => false, fun i p h => by dsimp only; rw [h]⟩
  obtain ⟨B, hB⟩ := hB
  have hle : ∀ (i j : Nat) (p r : Keyed), i ≤ j → ((ar.toList.drop bs).take n)[i]? = some p → ((ar.toList.drop bs).take n)[j]? = some r → R κ p r := fun i j p r hij hp hr => by
    by_cases e : i = j
    · subst e; rw [hp] at hr; cases hr; exact KeyOrd.kle_refl _
    · obtain ⟨hi, ep⟩ := List.getElem?_eq_some_iff.mp hp
      obtain ⟨hj, er⟩ := List.getElem?_eq_some_iff.mp hr
      have := List.pairwise_iff_getElem.mp hs i j hi hj (by omega)
      rw [ep, er] at this
      exact this
  refine wp_gallop (B := B) (fun i j hij hj hBj => ?_) (fun i Q hi hq => ?_) hh (fun k hk1 hk2 hk3 => q k hk1 (fun p hp => ?_) (fun p hp => ?_))
  · obtain ⟨p, _, hp, _⟩ := hat i (by omega)
    obtain ⟨r, _, hr, _⟩ := hat j hj
    rw [hB i p hp]
    rw [hB j r hr] at hBj
    have h1 : κ.kle (kyOf κ r) (kyOf κ ky) := by show κ.blt _ _ = false; simpa using hBj
    have h2 := KeyOrd.kle_trans (hle i j p r hij hp hr) h1
    show (!κ.blt _ _) = true
    rw [show κ.blt (kyOf κ ky) (kyOf κ p) = false from h2]; rfl
  · obtain ⟨p, h1, h2, h3⟩ := hat i hi
    rw [hB i p h2] at hq
    unfold bey
    refine wpS_bind (wp_elem h1 ?_)
    rw [if_neg (by decide)]
    refine wpS_bind (wp_lt hO hk (hl.at hky) (hl.at h3) (wpS_pure ?_))
    exact hq
  · obtain ⟨i, hi⟩ := List.mem_iff_getElem?.mp hp
    have hik : i < k := by have := (List.getElem?_eq_some_iff.mp hi).1; rw [List.length_take] at this; omega
    rw [List.getElem?_take_of_lt hik] at hi
    have := hk2 i hik
    rw [hB i p (by rw [List.getElem?_take_of_lt (by omega)]; exact hi)] at this
    show κ.blt _ _ = false
    simpa using this
  · obtain ⟨i, hi⟩ := List.mem_iff_getElem?.mp hp
    rw [List.getElem?_drop] at hi
    have hik : k + i < n := by have := (List.getElem?_eq_some_iff.mp hi).1; omega
    have := hk3 (k + i) (by omega) hik
    rw [hB _ p hi] at this
    show κ.blt _ _ = true
    simpa using this
/-- left: how many are less than the key -/
theorem wp_gL {st : SortSt} {ky : Keyed} {ar : Array Keyed} {bs n h : Nat} {l : List Keyed} {Q : Option Nat → SortSt → Prop} (hO : κ.OneLt) (hk : kindOf st = oneType') (hl : Kd κ l) (hky : ky ∈ l) (har : ∀ p ∈ ar.toList, p ∈ l) (hn : bs + n ≤ ar.size) (hh : h < n)
    (hs : ((ar.toList.drop bs).take n).Pairwise (R κ)) (q : ∀ k, k ≤ n → (∀ p ∈ (ar.toList.drop bs).take k, κ.klt (kyOf κ p) (kyOf κ ky)) → (∀ p ∈ ((ar.toList.drop bs).take n).drop k, R κ ky p) → Q (some k) st) : wpS (model prog w) A E s (gallop' true ky ar bs n h) Q st := by
  have hlen : ((ar.toList.drop bs).take n).length = n := by rw [List.length_take, List.length_drop, Array.length_toList]; omega
  have hat : ∀ i, i < n → ∃ p, ar[bs + i]? = some p ∧ ((ar.toList.drop bs).take n)[i]? = some p ∧ p ∈ l := fun i hi => by
    have h1 : ar[bs + i]? = some ar[bs + i] := getElem?_pos ar (bs + i) (by omega)
    refine ⟨_, h1, ?_, har _ (by simp)⟩
    rw [List.getElem?_take_of_lt hi, List.getElem?_drop]
    exact at_list h1
  have hB : ∃ B : Nat → Bool, ∀ i p, ((ar.toList.drop bs).take n)[i]? = some p → B i = κ.blt (kyOf κ p) (kyOf κ ky) := ⟨fun i => match ((ar.toList.drop bs).take n)[i]? with | some p => κ.blt (kyOf κ p) (kyOf κ ky) | none => false, fun i p h => by dsimp only; rw [h]⟩
  obtain ⟨B, hB⟩ := hB
  have hle : ∀ (i j : Nat) (p r : Keyed), i ≤ j → ((ar.toList.drop bs).take n)[i]? = some p → ((ar.toList.drop bs).take n)[j]? = some r → R κ p r := fun i j p r hij hp hr => by
    by_cases e : i = j
    · subst e; rw [hp] at hr; cases hr; exact KeyOrd.kle_refl _
    · obtain ⟨hi, ep⟩ := List.getElem?_eq_some_iff.mp hp
      obtain ⟨hj, er⟩ := List.getElem?_eq_some_iff.mp hr
      have := List.pairwise_iff_getElem.mp hs i j hi hj (by omega)
      rw [ep, er] at this
      exact this
  refine wp_gallop (B := B) (fun i j hij hj hBj => ?_) (fun i Q hi hq => ?_) hh (fun k hk1 hk2 hk3 => q k hk1 (fun p hp => ?_) (fun p hp => ?_))
  · obtain ⟨p, _, hp, _⟩ := hat i (by omega)
    obtain ⟨r, _, hr, _⟩ := hat j hj
    rw [hB i p hp]
    rw [hB j r hr] at hBj
    exact KeyOrd.klt_of_kle_of_klt (hle i j p r hij hp hr) hBj
  · obtain ⟨p, h1, h2, h3⟩ := hat i hi
    rw [hB i p h2] at hq
    unfold bey
    refine wpS_bind (wp_elem h1 ?_)
    rw [if_pos rfl]
    exact wp_lt hO hk (hl.at h3) (hl.at hky) hq
  · obtain ⟨i, hi⟩ := List.mem_iff_getElem?.mp hp
    have hik : i < k := by have := (List.getElem?_eq_some_iff.mp hi).1; rw [List.length_take] at this; omega
    rw [List.getElem?_take_of_lt hik] at hi
    have := hk2 i hik
    rw [hB i p (by rw [List.getElem?_take_of_lt (by omega)]; exact hi)] at this
    exact this
  · obtain ⟨i, hi⟩ := List.mem_iff_getElem?.mp hp
    rw [List.getElem?_drop] at hi
    have hik : k + i < n := by have := (List.getElem?_eq_some_iff.mp hi).1; omega
    have := hk3 (k + i) (by omega) hik
    rw [hB _ p hi] at this
    exact this
end
end Zs
set_option Elab.async false
set_option linter.all false
set_option maxRecDepth 100000
set_option autoImplicit false
namespace Zs
open PySem PyProof.Rows
section
variable {prog : Program} {w : World} {A : Around} {E : Value → Shared → Prop} {s : Shared} {κ : PyProof.Rows.KeyKind}
abbrev LoT := Option (Array Keyed) × Array Keyed × Nat × Nat × Nat × Nat × Nat
def loA (a b out : Array Keyed) (i j g ac bc : Nat) : StateT SortSt Sem (ForInStep LoT) := do
  let p ← elem' a i
  if (i + 1 + 1 == a.size) = true then pure (ForInStep.done (some (out.push p ++ b.extract j ++ a.extract (i + 1)), out.push p, i + 1, j, g, ac, bc))
  else if (decide (ac < 7) && decide (bc < 7)) = true then pure (ForInStep.done (none, out.push p, i + 1, j, g, ac, bc)) else pure (ForInStep.yield (none, out.push p, i + 1, j, g, ac, bc))
def loB (a b out : Array Keyed) (i j g ac bc : Nat) : StateT SortSt Sem (ForInStep LoT) := do
  let p ← elem' b j
  if (j + 1 == b.size) = true then pure (ForInStep.done (some (out.push p ++ a.extract i ++ b.extract (j + 1)), out.push p, i, j + 1, g, ac, bc)) else do
    let p2 ← elem' a i
    let r ← gallop' true p2 b (j + 1) (b.size - (j + 1)) 0
    match r with
    | some k =>
      if k > 0 then
        if (j + 1 + k == b.size) = true then pure (ForInStep.done (some (out.push p ++ b.extract (j + 1) (j + 1 + k) ++ a.extract i ++ b.extract (j + 1 + k)), out.push p ++ b.extract (j + 1) (j + 1 + k), i, j + 1 + k, g, ac, k))
        else loA a b (out.push p ++ b.extract (j + 1) (j + 1 + k)) i (j + 1 + k) g ac k
      else loA a b (out.push p) i (j + 1) g ac k
    | _ => pure (ForInStep.done (some (out.push p ++ a.extract i ++ b.extract (j + 1)), out.push p, i, j + 1, g, ac, bc))
def loC (a b out : Array Keyed) (i j g ac bc : Nat) : StateT SortSt Sem (ForInStep LoT) := do
  setMinGallop' g
  let p ← elem' b j
  let r ← gallop' false p a i (a.size - i) 0
  match r with
  | some k =>
    if k > 0 then
      if (i + k + 1 == a.size) = true then pure (ForInStep.done (some (out ++ a.extract i (i + k) ++ b.extract j ++ a.extract (i + k)), out ++ a.extract i (i + k), i + k, j, g, k, bc))
      else if (i + k == a.size) = true then pure (ForInStep.done (some (out ++ a.extract i (i + k) ++ a.extract (i + k) ++ b.extract j), out ++ a.extract i (i + k), i + k, j, g, k, bc))
      else loB a b (out ++ a.extract i (i + k)) (i + k) j g k bc
    else loB a b out i j g k bc
  | _ => pure (ForInStep.done (some (out ++ a.extract i ++ b.extract j), out, i, j, g, ac, bc))
/-- what stands at the front merge -/
structure Lo (κ : PyProof.Rows.KeyKind) (a b : Array Keyed) : Prop where
  K : Kd κ (a.toList ++ b.toList)
  sa : a.toList.Pairwise (R κ)
  sb : b.toList.Pairwise (R κ)
  top : ∀ q ∈ b.toList, ∀ p, a[a.size - 1]? = some p → R κ q p
theorem Lo.atA {a b : Array Keyed} (L : Lo κ a b) {i : Nat} (hi : i < a.size) : ∃ p, a[i]? = some p ∧ a.toList[i]? = some p ∧ p ∈ a.toList ++ b.toList := ⟨a[i], getElem?_pos a i hi, at_list (getElem?_pos a i hi), List.mem_append_left _ (by simp)⟩
theorem Lo.atB {a b : Array Keyed} (L : Lo κ a b) {i : Nat} (hi : i < b.size) : ∃ p, b[i]? = some p ∧ b.toList[i]? = some p ∧ p ∈ a.toList ++ b.toList := ⟨b[i], getElem?_pos b i hi, at_list (getElem?_pos b i hi), List.mem_append_right _ (by simp)⟩
theorem ex_all (a : Array Keyed) (i : Nat) : (a.extract i).toList = a.toList.drop i := by rw [ex_list, List.take_of_length_le (by rw [List.length_drop, Array.length_toList]; omega)]
theorem Lo.done {a b : Array Keyed} (L : Lo κ a b) {out : Array Keyed} {i j : Nat} (M : Mg κ a.toList b.toList out.toList i j) (h : i = a.size ∨ j = b.size) : Good κ a.toList b.toList (out ++ a.extract i ++ b.extract j).toList := by
  rw [Array.toList_append, Array.toList_append, ex_all, ex_all]
  refine M.done L.sa L.sb fun p hp r hr => ?_
  rcases h with rfl | rfl
  · rw [List.drop_eq_nil_of_le (by simp)] at hp; cases hp
  · rw [List.drop_eq_nil_of_le (by simp)] at hr; cases hr
theorem Lo.last {a b : Array Keyed} (L : Lo κ a b) {out : Array Keyed} {i j : Nat} (M : Mg κ a.toList b.toList out.toList i j) (h : i + 1 = a.size) : Good κ a.toList b.toList (out ++ b.extract j ++ a.extract i).toList := by
  rw [Array.toList_append, Array.toList_append, ex_all, ex_all]
  obtain ⟨p, e1, e2, _⟩ := L.atA (i := i) (by omega)
  refine M.last L.sa L.sb fun r hr p' hp' => ?_
  rw [dr_cons e2, List.drop_eq_nil_of_le (by rw [Array.length_toList]; omega)] at hp'
  rw [List.mem_singleton.mp hp']
  exact L.top r (List.mem_of_mem_drop hr) p (by rw [show a.size - 1 = i by omega]; exact e1)
theorem Mg.pushA {a b : Array Keyed} (L : Lo κ a b) {out : Array Keyed} {i j : Nat} {p : Keyed} (M : Mg κ a.toList b.toList out.toList i j) (e : a.toList[i]? = some p) (h : ∀ q ∈ b.toList.drop j, R κ p q) : Mg κ a.toList b.toList (out.push p).toList (i + 1) j := by
  have := M.a L.sa 1 (by rw [tk1 e]; intro x hx; rw [List.mem_singleton.mp hx]; exact h)
  rw [tk1 e] at this
  rw [Array.toList_push]; exact this
theorem Mg.pushB {a b : Array Keyed} (L : Lo κ a b) {out : Array Keyed} {i j : Nat} {p : Keyed} (M : Mg κ a.toList b.toList out.toList i j) (e : b.toList[j]? = some p) (h : ∀ q ∈ a.toList.drop i, R κ p q) : Mg κ a.toList b.toList (out.push p).toList i (j + 1) := by
  have := M.b L.sb 1 (by rw [tk1 e]; intro x hx; rw [List.mem_singleton.mp hx]; exact h)
  rw [tk1 e] at this
  rw [Array.toList_push]; exact this
theorem ex_k (a out : Array Keyed) (i k : Nat) : (out ++ a.extract i (i + k)).toList = out.toList ++ (a.toList.drop i).take k := by rw [Array.toList_append, ex_list, Nat.add_sub_cancel_left]
structure LoP (κ : PyProof.Rows.KeyKind) (a b : Array Keyed) (st : SortSt) (N : Nat) (P : ForInStep LoT → SortSt → Prop) : Prop where
  r : ∀ (r out : Array Keyed) (i j g ac bc : Nat) (st' : SortSt), Sm st st' → Good κ a.toList b.toList r.toList → P (ForInStep.done (some r, out, i, j, g, ac, bc)) st'
  d : ∀ (out : Array Keyed) (i j g ac bc : Nat) (st' : SortSt), Sm st st' → Mg κ a.toList b.toList out.toList i j → i + 1 < a.size → j < b.size → N ≤ i + j → P (ForInStep.done (none, out, i, j, g, ac, bc)) st'
  y : ∀ (out : Array Keyed) (i j g ac bc : Nat) (st' : SortSt), Sm st st' → Mg κ a.toList b.toList out.toList i j → i + 1 < a.size → j < b.size → N ≤ i + j → P (ForInStep.yield (none, out, i, j, g, ac, bc)) st'
theorem wp_loA {st st' : SortSt} {a b out : Array Keyed} {i j g ac bc N : Nat} {P : ForInStep LoT → SortSt → Prop} (L : Lo κ a b) (hP : LoP κ a b st N P) (S : Sm st st') (M : Mg κ a.toList b.toList out.toList i j) (hi : i + 1 < a.size) (hj : j < b.size) (hN : N ≤ i + j)
    (h : ∀ p, a.toList[i]? = some p → ∀ q ∈ b.toList.drop j, R κ p q) : wpS (model prog w) A E s (loA a b out i j g ac bc) P st' := by
  unfold loA
  obtain ⟨p, e1, e2, e3⟩ := L.atA (i := i) (by omega)
  refine wpS_bind (wp_elem e1 ?_)
  have M2 := M.pushA L e2 (h p e2)
  by_cases c : i + 1 + 1 = a.size
  · rw [if_pos (by simpa using c)]
    exact wpS_pure (hP.r _ _ _ _ _ _ _ _ S (L.last M2 c))
  · rw [if_neg (by simpa using c)]
    split
    · exact wpS_pure (hP.d _ _ _ _ _ _ _ S M2 (by omega) hj (by omega))
    · exact wpS_pure (hP.y _ _ _ _ _ _ _ S M2 (by omega) hj (by omega))
theorem wp_loB {st st' : SortSt} {a b out : Array Keyed} {i j g ac bc N : Nat} {P : ForInStep LoT → SortSt → Prop} (hO : κ.OneLt) (hk : kindOf st = oneType') (L : Lo κ a b) (hP : LoP κ a b st N P) (S : Sm st st') (M : Mg κ a.toList b.toList out.toList i j) (hi : i + 1 < a.size) (hj : j < b.size) (hN : N ≤ i + j)
    (h : ∀ p, b.toList[j]? = some p → ∀ q ∈ a.toList.drop i, R κ p q) : wpS (model prog w) A E s (loB a b out i j g ac bc) P st' := by
  unfold loB
  obtain ⟨p, e1, e2, e3⟩ := L.atB hj
  refine wpS_bind (wp_elem e1 ?_)
  have M2 := M.pushB L e2 (h p e2)
  by_cases c : j + 1 = b.size
  · rw [if_pos (by simpa using c)]
    exact wpS_pure (hP.r _ _ _ _ _ _ _ _ S (L.done M2 (.inr c)))
  · rw [if_neg (by simpa using c)]
    obtain ⟨p2, f1, f2, f3⟩ := L.atA (i := i) (by omega)
    refine wpS_bind (wp_elem f1 ?_)
    have hsz : b.toList.length = b.size := Array.length_toList
    have hall : (b.toList.drop (j + 1)).take (b.size - (j + 1)) = b.toList.drop (j + 1) := List.take_of_length_le (by rw [List.length_drop]; omega)
    refine wpS_bind (wp_gL hO (S.k.trans hk) L.K f3 (fun p hp => List.mem_append_right _ hp) (by omega) (by omega) (by rw [hall]; exact L.sb.sublist (List.drop_sublist _ _)) fun k hk1 hk2 hk3 => ?_)
    rw [hall, List.drop_drop] at hk3
    have M3 := M2.b L.sb k (fun r hr q hq => KeyOrd.kle_trans (KeyOrd.kle_of_klt (hk2 r hr)) (hd_le L.sa f2 q hq))
    rw [← ex_k] at M3
    dsimp only
    by_cases hk0 : k > 0
    · rw [if_pos hk0]
      by_cases c2 : j + 1 + k = b.size
      · rw [if_pos (by simpa using c2)]
        exact wpS_pure (hP.r _ _ _ _ _ _ _ _ S (L.done M3 (.inr c2)))
      · rw [if_neg (by simpa using c2)]
        refine wp_loA L hP S M3 hi (by omega) (by omega) fun x hx q hq => ?_
        rw [f2] at hx; cases hx
        exact hk3 q hq
    · rw [if_neg hk0]
      obtain rfl : k = 0 := by omega
      refine wp_loA L hP S M2 hi (by omega) (by omega) fun x hx q hq => ?_
      rw [f2] at hx; cases hx
      exact hk3 q hq
theorem wp_loC {st st' : SortSt} {a b out : Array Keyed} {i j g ac bc N : Nat} {P : ForInStep LoT → SortSt → Prop} (hO : κ.OneLt) (hk : kindOf st = oneType') (L : Lo κ a b) (hP : LoP κ a b st N P) (S0 : Sm st st') (M : Mg κ a.toList b.toList out.toList i j) (hi : i + 1 < a.size) (hj : j < b.size) (hN : N ≤ i + j) :
    wpS (model prog w) A E s (loC a b out i j g ac bc) P st' := by
  unfold loC
  refine wpS_bind (wp_setG fun st2 S2 => ?_)
  have S := S0.trans S2
  obtain ⟨p, e1, e2, e3⟩ := L.atB hj
  refine wpS_bind (wp_elem e1 ?_)
  have hsz : a.toList.length = a.size := Array.length_toList
  have hall : (a.toList.drop i).take (a.size - i) = a.toList.drop i := List.take_of_length_le (by rw [List.length_drop]; omega)
  refine wpS_bind (wp_gR hO (S.k.trans hk) L.K e3 (fun p hp => List.mem_append_left _ hp) (by omega) (by omega) (by rw [hall]; exact L.sa.sublist (List.drop_sublist _ _)) fun k hk1 hk2 hk3 => ?_)
  rw [hall, List.drop_drop] at hk3
  have M3 := M.a L.sa k (fun r hr q hq => KeyOrd.kle_trans (hk2 r hr) (hd_le L.sb e2 q hq))
  rw [← ex_k] at M3
  dsimp only
  have hB : ∀ x, b.toList[j]? = some x → ∀ q ∈ a.toList.drop (i + k), R κ x q := fun x hx q hq => by
    rw [e2] at hx; cases hx
    exact KeyOrd.kle_of_klt (hk3 q hq)
  by_cases hk0 : k > 0
  · rw [if_pos hk0]
    by_cases c1 : i + k + 1 = a.size
    · rw [if_pos (by simpa using c1)]
      exact wpS_pure (hP.r _ _ _ _ _ _ _ _ S (L.last M3 c1))
    · rw [if_neg (by simpa using c1)]
      by_cases c2 : i + k = a.size
      · rw [if_pos (by simpa using c2)]
        exact wpS_pure (hP.r _ _ _ _ _ _ _ _ S (L.done M3 (.inl c2)))
      · rw [if_neg (by simpa using c2)]
        exact wp_loB hO hk L hP S M3 (by omega) hj (by omega) hB
  · rw [if_neg hk0]
    obtain rfl : k = 0 := by omega
    exact wp_loB hO hk L hP S M hi hj hN hB
theorem wp_mergeLo {st : SortSt} {a b : Array Keyed} {b0 : Keyed} {Q : Array Keyed → SortSt → Prop} (hO : κ.OneLt) (hk : kindOf st = oneType') (L : Lo κ a b) (na : 0 < a.size) (hb0 : b[0]? = some b0) (h1 : ∀ q ∈ a.toList, R κ b0 q)
    (q : ∀ r st', Sm st st' → Good κ a.toList b.toList r.toList → Q r st') : wpS (model prog w) A E s (mergeLo' a b) Q st := by
  have nb : 0 < b.size := by
    rcases Nat.eq_zero_or_pos b.size with h | h
    · rw [Array.getElem?_eq_none (by omega)] at hb0; cases hb0
    · exact h
  have M0 : Mg κ a.toList b.toList #[b0].toList 0 1 := by
    have e0 := at_list hb0
    have et : b.toList.take 1 = [b0] := by have := tk1 e0; rwa [List.drop_zero] at this
    refine ⟨List.pairwise_singleton _ _, by rw [List.take_zero, et]; exact List.Perm.refl _, fun p hp r hr => ?_⟩
    rw [List.mem_singleton.mp hp]
    rcases List.mem_append.mp hr with hr | hr
    · exact h1 r (by rwa [List.drop_zero] at hr)
    · exact hd_le L.sb e0 r (by rw [List.drop_zero]; exact List.mem_of_mem_drop hr)
  refine wpS_bind (wpS_lift (wpAny_rule ⟨rfl, ?_⟩))
  refine wpS_bind (wp_elem hb0 ?_)
  by_cases c1 : 1 = b.size
  · rw [if_pos (by simpa using c1)]
    exact wpS_pure (q _ _ (Sm.refl _) (L.done M0 (.inr c1)))
  rw [if_neg (by simpa using c1)]
  by_cases c2 : 0 + 1 = a.size
  · rw [if_pos (by simpa using c2)]
    exact wpS_pure (q _ _ (Sm.refl _) (L.last M0 c2))
  rw [if_neg (by simpa using c2)]
  refine wpS_bind (wpS_get ?_)
  refine wpS_bind (wpS_mono (wpS_forRange (I := fun x c st' => ∃ (out : Array Keyed) (i j g : Nat), c = (none, out, i, j, g) ∧ Sm st st' ∧ Mg κ a.toList b.toList out.toList i j ∧ i + 1 < a.size ∧ j < b.size ∧ x + 1 ≤ i + j)
    (Q := fun c st' => ∃ (r out : Array Keyed) (i j g : Nat), c = (some r, out, i, j, g) ∧ Sm st st' ∧ Good κ a.toList b.toList r.toList) ?step ?fin ?init) ?post)
  case init => exact ⟨_, _, _, _, rfl, Sm.refl _, M0, by omega, by omega, by omega⟩
  case fin =>
    rintro c st' ⟨out, i, j, g, rfl, S, M, hi, hj, hx⟩
    exfalso
    rw [show max 0 (a.size + b.size) = a.size + b.size by omega] at hx
    omega
  case post =>
    rintro c st' ⟨r, out, i, j, g, rfl, S, G⟩
    exact wpS_pure (q r st' S G)
  case step =>
    rintro x c st' _ hx ⟨out, i, j, g, rfl, S, M, hi, hj, hxij⟩
    refine wpS_bind (wpS_mono (wpS_forRange (I := fun y c st2 => ∃ (out : Array Keyed) (i j ac bc : Nat), c = (none, out, i, j, ac, bc) ∧ Sm st st2 ∧ Mg κ a.toList b.toList out.toList i j ∧ i + 1 < a.size ∧ j < b.size ∧ x + 1 + y ≤ i + j)
      (Q := fun c st2 => (∃ (r out : Array Keyed) (i j ac bc : Nat), c = (some r, out, i, j, ac, bc) ∧ Sm st st2 ∧ Good κ a.toList b.toList r.toList) ∨ ∃ (out : Array Keyed) (i j ac bc : Nat), c = (none, out, i, j, ac, bc) ∧ Sm st st2 ∧ Mg κ a.toList b.toList out.toList i j ∧ i + 1 < a.size ∧ j < b.size ∧ x + 2 ≤ i + j) ?s1 ?f1 ?i1) ?p1)
    case i1 => exact ⟨_, _, _, _, _, rfl, S, M, hi, hj, by omega⟩
    case f1 =>
      rintro c st2 ⟨out, i, j, ac, bc, rfl, S, M, hi, hj, hij⟩
      rw [show max 0 (a.size + b.size) = a.size + b.size by omega] at hij
      exact .inr ⟨_, _, _, _, _, rfl, S, M, hi, hj, by omega⟩
    case s1 =>
      rintro y c st2 _ hy ⟨out, i, j, ac, bc, rfl, S, M, hi, hj, hij⟩
      obtain ⟨pb, b1, b2, b3⟩ := L.atB hj
      obtain ⟨pa, a1, a2, a3⟩ := L.atA (i := i) (by omega)
      refine wpS_bind (wp_elem b1 ?_)
      refine wpS_bind (wp_elem a1 ?_)
      refine wpS_bind (wp_ltR hO (S.k.trans hk) L.K b3 a3 (fun hlt => ?_) (fun hle => ?_))
      · dsimp only
        rw [if_pos rfl]
        refine wpS_bind (wp_elem b1 ?_)
        have M2 := M.pushB L b2 fun q hq => KeyOrd.kle_trans (KeyOrd.kle_of_klt hlt) (hd_le L.sa a2 q hq)
        by_cases c : j + 1 = b.size
        · rw [if_pos (by simpa using c)]
          exact wpS_pure (.inl ⟨_, _, _, _, _, _, rfl, S, L.done M2 (.inr c)⟩)
        · rw [if_neg (by simpa using c)]
          split
          · exact wpS_pure (.inr ⟨_, _, _, _, _, rfl, S, M2, hi, by omega, by omega⟩)
          · exact wpS_pure ⟨_, _, _, _, _, rfl, S, M2, hi, by omega, by omega⟩
      · dsimp only
        rw [if_neg (by decide)]
        refine wpS_bind (wp_elem a1 ?_)
        have M2 := M.pushA L a2 fun q hq => KeyOrd.kle_trans hle (hd_le L.sb b2 q hq)
        by_cases c : i + 1 + 1 = a.size
        · rw [if_pos (by simpa using c)]
          exact wpS_pure (.inl ⟨_, _, _, _, _, _, rfl, S, L.last M2 c⟩)
        · rw [if_neg (by simpa using c)]
          split
          · exact wpS_pure (.inr ⟨_, _, _, _, _, rfl, S, M2, by omega, hj, by omega⟩)
          · exact wpS_pure ⟨_, _, _, _, _, rfl, S, M2, by omega, hj, by omega⟩
    case p1 =>
      rintro c st2 (⟨r, out, i, j, ac, bc, rfl, S, G⟩ | ⟨out, i, j, ac, bc, rfl, S, M, hi, hj, hij⟩)
      · exact wpS_pure ⟨r, _, _, _, _, rfl, S, G⟩
      · refine wpS_bind (wpS_lift (wpAny_rule ⟨rfl, ?_⟩))
        refine wpS_bind (wpS_mono (wpS_forRange (I := fun y c st3 => ∃ (out : Array Keyed) (i j g ac bc : Nat), c = (none, out, i, j, g, ac, bc) ∧ Sm st st3 ∧ Mg κ a.toList b.toList out.toList i j ∧ i + 1 < a.size ∧ j < b.size ∧ x + 2 ≤ i + j)
          (Q := fun c st3 => (∃ (r out : Array Keyed) (i j g ac bc : Nat), c = (some r, out, i, j, g, ac, bc) ∧ Sm st st3 ∧ Good κ a.toList b.toList r.toList) ∨ ∃ (out : Array Keyed) (i j g ac bc : Nat), c = (none, out, i, j, g, ac, bc) ∧ Sm st st3 ∧ Mg κ a.toList b.toList out.toList i j ∧ i + 1 < a.size ∧ j < b.size ∧ x + 2 ≤ i + j) ?s2 ?f2 ?i2) ?p2)
        case i2 => exact ⟨_, _, _, _, _, _, rfl, S, M, hi, hj, hij⟩
        case f2 => exact fun c st3 h => .inr h
        case p2 =>
          rintro c st3 (⟨r, out, i, j, g, ac, bc, rfl, S, G⟩ | ⟨out, i, j, g, ac, bc, rfl, S, M, hi, hj, hij⟩)
          · exact wpS_pure ⟨r, _, _, _, _, rfl, S, G⟩
          · refine wpS_bind (wp_setG fun st4 S4 => wpS_pure ⟨_, _, _, _, rfl, S.trans S4, M, hi, hj, by omega⟩)
        case s2 =>
          rintro y c st3 _ hy ⟨out, i, j, g, ac, bc, rfl, S, M, hi, hj, hij⟩
          show wpS _ _ _ _ (if g > 1 then loC a b out i j (g - 1) ac bc else loC a b out i j g ac bc) _ _
          by_cases hg : g > 1
          · rw [if_pos hg]
            exact wp_loC (N := x + 2) hO hk L ⟨fun r out i j g ac bc st' S G => .inl ⟨r, out, i, j, g, ac, bc, rfl, S, G⟩, fun out i j g ac bc st' S M h1 h2 h3 => .inr ⟨out, i, j, g, ac, bc, rfl, S, M, h1, h2, h3⟩, fun out i j g ac bc st' S M h1 h2 h3 => ⟨out, i, j, g, ac, bc, rfl, S, M, h1, h2, h3⟩⟩ S M hi hj hij
          · rw [if_neg hg]
            exact wp_loC (N := x + 2) hO hk L ⟨fun r out i j g ac bc st' S G => .inl ⟨r, out, i, j, g, ac, bc, rfl, S, G⟩, fun out i j g ac bc st' S M h1 h2 h3 => .inr ⟨out, i, j, g, ac, bc, rfl, S, M, h1, h2, h3⟩, fun out i j g ac bc st' S M h1 h2 h3 => ⟨out, i, j, g, ac, bc, rfl, S, M, h1, h2, h3⟩⟩ S M hi hj hij
end
end Zs
set_option Elab.async false
set_option linter.all false
set_option maxRecDepth 100000
set_option autoImplicit false
namespace Zs
open PySem PyProof.Rows
section
variable {prog : Program} {w : World} {A : Around} {E : Value → Shared → Prop} {s : Shared} {κ : PyProof.Rows.KeyKind}
abbrev HiT := Option (Array Keyed) × Nat × Nat × Array Keyed × Nat × Nat × Nat
def hiA (a b out : Array Keyed) (i j g ac bc : Nat) : StateT SortSt Sem (ForInStep HiT) := do
  let p ← elem' a (i - 1)
  if (i - 1 == 0) = true then pure (ForInStep.done (some (a.extract 0 (i - 1) ++ b.extract 0 j ++ (out.push p).reverse), i - 1, j, out.push p, g, ac, bc))
  else if (decide (ac < 7) && decide (bc < 7)) = true then pure (ForInStep.done (none, i - 1, j, out.push p, g, ac, bc)) else pure (ForInStep.yield (none, i - 1, j, out.push p, g, ac, bc))
def hiB (a b out : Array Keyed) (i j g ac bc : Nat) : StateT SortSt Sem (ForInStep HiT) := do
  let p ← elem' b (j - 1)
  if (j - 1 == 1) = true then pure (ForInStep.done (some (b.extract 0 (j - 1) ++ a.extract 0 i ++ (out.push p).reverse), i, j - 1, out.push p, g, ac, bc)) else do
    let p2 ← elem' a (i - 1)
    let r ← gallop' true p2 b 0 (j - 1) (j - 1 - 1)
    match r with
    | some k =>
      if j - 1 - k > 0 then
        if (k == 1) = true then pure (ForInStep.done (some (b.extract 0 k ++ a.extract 0 i ++ (out.push p ++ (b.extract k (j - 1)).reverse).reverse), i, k, out.push p ++ (b.extract k (j - 1)).reverse, g, ac, j - 1 - k))
        else if (k == 0) = true then pure (ForInStep.done (some (a.extract 0 i ++ b.extract 0 k ++ (out.push p ++ (b.extract k (j - 1)).reverse).reverse), i, k, out.push p ++ (b.extract k (j - 1)).reverse, g, ac, j - 1 - k))
        else hiA a b (out.push p ++ (b.extract k (j - 1)).reverse) i k g ac (j - 1 - k)
      else hiA a b (out.push p) i (j - 1) g ac (j - 1 - k)
    | _ => pure (ForInStep.done (some (a.extract 0 i ++ b.extract 0 (j - 1) ++ (out.push p).reverse), i, j - 1, out.push p, g, ac, bc))
def hiC (a b out : Array Keyed) (i j g ac bc : Nat) : StateT SortSt Sem (ForInStep HiT) := do
  setMinGallop' g
  let p ← elem' b (j - 1)
  let r ← gallop' false p a 0 i (i - 1)
  match r with
  | some k =>
    if i - k > 0 then
      if (k == 0) = true then pure (ForInStep.done (some (a.extract 0 k ++ b.extract 0 j ++ (out ++ (a.extract k i).reverse).reverse), k, j, out ++ (a.extract k i).reverse, g, i - k, bc))
      else hiB a b (out ++ (a.extract k i).reverse) k j g (i - k) bc
    else hiB a b out i j g (i - k) bc
  | _ => pure (ForInStep.done (some (a.extract 0 i ++ b.extract 0 j ++ out.reverse), i, j, out, g, ac, bc))
/-- what stands at the merge from behind -/
structure Hi (κ : PyProof.Rows.KeyKind) (a b : Array Keyed) : Prop where
  K : Kd κ (a.toList ++ b.toList)
  sa : a.toList.Pairwise (R κ)
  sb : b.toList.Pairwise (R κ)
  bot : ∀ q ∈ a.toList, ∀ p, b[0]? = some p → R κ p q
abbrev MH (κ : PyProof.Rows.KeyKind) (a b out : Array Keyed) (i j : Nat) : Prop := Mh κ a.toList b.toList out.toList.reverse i j
theorem Hi.atA {a b : Array Keyed} (L : Hi κ a b) {i : Nat} (hi : i < a.size) : ∃ p, a[i]? = some p ∧ a.toList[i]? = some p ∧ p ∈ a.toList ++ b.toList := ⟨a[i], getElem?_pos a i hi, at_list (getElem?_pos a i hi), List.mem_append_left _ (by simp)⟩
theorem Hi.atB {a b : Array Keyed} (L : Hi κ a b) {i : Nat} (hi : i < b.size) : ∃ p, b[i]? = some p ∧ b.toList[i]? = some p ∧ p ∈ a.toList ++ b.toList := ⟨b[i], getElem?_pos b i hi, at_list (getElem?_pos b i hi), List.mem_append_right _ (by simp)⟩
theorem ex_0 (a : Array Keyed) (i : Nat) : (a.extract 0 i).toList = a.toList.take i := by rw [ex_list, List.drop_zero, Nat.sub_zero]
theorem Hi.done {a b : Array Keyed} (L : Hi κ a b) {out : Array Keyed} {i j : Nat} (M : MH κ a b out i j) (h : i = 0 ∨ j = 0) : Good κ a.toList b.toList (a.extract 0 i ++ b.extract 0 j ++ out.reverse).toList := by
  rw [Array.toList_append, Array.toList_append, ex_0, ex_0, Array.toList_reverse]
  refine M.done L.sa L.sb fun p hp r hr => ?_
  rcases h with rfl | rfl
  · rw [List.take_zero] at hp; cases hp
  · rw [List.take_zero] at hr; cases hr
theorem Hi.first {a b : Array Keyed} (L : Hi κ a b) {out : Array Keyed} {i j : Nat} (M : MH κ a b out i j) (h : j = 1) : Good κ a.toList b.toList (b.extract 0 j ++ a.extract 0 i ++ out.reverse).toList := by
  rw [Array.toList_append, Array.toList_append, ex_0, ex_0, Array.toList_reverse]
  refine M.first L.sa L.sb fun p hp r hr => ?_
  subst h
  obtain ⟨k, hk⟩ := List.mem_iff_getElem?.mp hp
  have hk0 : k = 0 := by have := (List.getElem?_eq_some_iff.mp hk).1; rw [List.length_take] at this; omega
  subst hk0
  rw [List.getElem?_take_of_lt (by omega)] at hk
  exact L.bot r (List.mem_of_mem_take hr) p (by rw [Array.getElem?_toList] at hk; exact hk)
theorem tk_last {l : List Keyed} {i : Nat} {p : Keyed} (hi : 0 < i) (h : l[i - 1]? = some p) : (l.take i).drop (i - 1) = [p] := by
  have e : l.take i = l.take (i - 1) ++ [p] := by
    conv => lhs; rw [show i = i - 1 + 1 by omega]
    rw [List.take_add_one, h]; rfl
  have hl := (List.getElem?_eq_some_iff.mp h).1
  rw [e, List.drop_left' (by rw [List.length_take]; omega)]
theorem push_rev (out : Array Keyed) (p : Keyed) : (out.push p).toList.reverse = [p] ++ out.toList.reverse := by rw [Array.toList_push, List.reverse_append]; rfl
theorem ext_rev (a out : Array Keyed) (k i : Nat) : (out ++ (a.extract k i).reverse).toList.reverse = (a.toList.take i).drop k ++ out.toList.reverse := by
  rw [Array.toList_append, Array.toList_reverse, List.reverse_append, List.reverse_reverse, ex_list, List.drop_take]
theorem MH.pushA {a b : Array Keyed} (L : Hi κ a b) {out : Array Keyed} {i j : Nat} {p : Keyed} (M : MH κ a b out i j) (hi : 0 < i) (e : a.toList[i - 1]? = some p) (h : ∀ q ∈ b.toList.take j, R κ q p) : MH κ a b (out.push p) (i - 1) j := by
  have := M.a L.sa (k := i - 1) (by omega) (by rw [tk_last hi e]; intro x hx; rw [List.mem_singleton.mp hx]; exact h)
  rw [tk_last hi e] at this
  unfold MH; rw [push_rev]; exact this
theorem MH.pushB {a b : Array Keyed} (L : Hi κ a b) {out : Array Keyed} {i j : Nat} {p : Keyed} (M : MH κ a b out i j) (hj : 0 < j) (e : b.toList[j - 1]? = some p) (h : ∀ q ∈ a.toList.take i, R κ q p) : MH κ a b (out.push p) i (j - 1) := by
  have := M.b L.sb (k := j - 1) (by omega) (by rw [tk_last hj e]; intro x hx; rw [List.mem_singleton.mp hx]; exact h)
  rw [tk_last hj e] at this
  unfold MH; rw [push_rev]; exact this
structure HiP (κ : PyProof.Rows.KeyKind) (a b : Array Keyed) (st : SortSt) (N : Nat) (P : ForInStep HiT → SortSt → Prop) : Prop where
  r : ∀ (r out : Array Keyed) (i j g ac bc : Nat) (st' : SortSt), Sm st st' → Good κ a.toList b.toList r.toList → P (ForInStep.done (some r, i, j, out, g, ac, bc)) st'
  d : ∀ (out : Array Keyed) (i j g ac bc : Nat) (st' : SortSt), Sm st st' → MH κ a b out i j → 0 < i → 1 < j → i + j ≤ N → i ≤ a.size → j ≤ b.size → P (ForInStep.done (none, i, j, out, g, ac, bc)) st'
  y : ∀ (out : Array Keyed) (i j g ac bc : Nat) (st' : SortSt), Sm st st' → MH κ a b out i j → 0 < i → 1 < j → i + j ≤ N → i ≤ a.size → j ≤ b.size → P (ForInStep.yield (none, i, j, out, g, ac, bc)) st'
theorem wp_hiA {st st' : SortSt} {a b out : Array Keyed} {i j g ac bc N : Nat} {P : ForInStep HiT → SortSt → Prop} (L : Hi κ a b) (hP : HiP κ a b st N P) (S : Sm st st') (M : MH κ a b out i j) (hi : 0 < i) (hj : 1 < j) (hN : i + j ≤ N) (hia : i ≤ a.size) (hjb : j ≤ b.size)
    (h : ∀ p, a.toList[i - 1]? = some p → ∀ q ∈ b.toList.take j, R κ q p) : wpS (model prog w) A E s (hiA a b out i j g ac bc) P st' := by
  unfold hiA
  obtain ⟨p, e1, e2, e3⟩ := L.atA (i := i - 1) (by omega)
  refine wpS_bind (wp_elem e1 ?_)
  have M2 := MH.pushA L M hi e2 (h p e2)
  by_cases c : i - 1 = 0
  · rw [if_pos (by simpa using c)]
    exact wpS_pure (hP.r _ _ _ _ _ _ _ _ S (L.done M2 (.inl c)))
  · rw [if_neg (by simpa using c)]
    split
    · exact wpS_pure (hP.d _ _ _ _ _ _ _ S M2 (by omega) hj (by omega) (by omega) hjb)
    · exact wpS_pure (hP.y _ _ _ _ _ _ _ S M2 (by omega) hj (by omega) (by omega) hjb)
theorem wp_hiB {st st' : SortSt} {a b out : Array Keyed} {i j g ac bc N : Nat} {P : ForInStep HiT → SortSt → Prop} (hO : κ.OneLt) (hk : kindOf st = oneType') (L : Hi κ a b) (hP : HiP κ a b st N P) (S : Sm st st') (M : MH κ a b out i j) (hi : 0 < i) (hj : 1 < j) (hN : i + j ≤ N) (hia : i ≤ a.size) (hjb : j ≤ b.size)
    (h : ∀ p, b.toList[j - 1]? = some p → ∀ q ∈ a.toList.take i, R κ q p) : wpS (model prog w) A E s (hiB a b out i j g ac bc) P st' := by
  unfold hiB
  obtain ⟨p, e1, e2, e3⟩ := L.atB (i := j - 1) (by omega)
  refine wpS_bind (wp_elem e1 ?_)
  have M2 := MH.pushB L M (by omega) e2 (h p e2)
  by_cases c : j - 1 = 1
  · rw [if_pos (by simpa using c)]
    exact wpS_pure (hP.r _ _ _ _ _ _ _ _ S (L.first M2 c))
  · rw [if_neg (by simpa using c)]
    obtain ⟨p2, f1, f2, f3⟩ := L.atA (i := i - 1) (by omega)
    refine wpS_bind (wp_elem f1 ?_)
    refine wpS_bind (wp_gL hO (S.k.trans hk) L.K f3 (fun p hp => List.mem_append_right _ hp) (by omega) (by omega) (by rw [List.drop_zero]; exact L.sb.sublist (List.take_sublist _ _)) fun k hk1 hk2 hk3 => ?_)
    rw [List.drop_zero] at hk2 hk3
    have hlast : ∀ q ∈ a.toList.take i, R κ q p2 := by
      have := tl_le L.sa f2
      rwa [show i - 1 + 1 = i by omega] at this
    have M3 := M2.b L.sb (k := k) hk1 (fun r hr q hq => KeyOrd.kle_trans (hlast q hq) (hk3 r hr))
    rw [← ext_rev] at M3
    dsimp only
    by_cases hk0 : j - 1 - k > 0
    · rw [if_pos hk0]
      by_cases c2 : k = 1
      · rw [if_pos (by simpa using c2)]
        exact wpS_pure (hP.r _ _ _ _ _ _ _ _ S (L.first M3 c2))
      · rw [if_neg (by simpa using c2)]
        by_cases c3 : k = 0
        · rw [if_pos (by simpa using c3)]
          exact wpS_pure (hP.r _ _ _ _ _ _ _ _ S (L.done M3 (.inr c3)))
        · rw [if_neg (by simpa using c3)]
          refine wp_hiA L hP S M3 hi (by omega) (by omega) hia (by omega) fun x hx q hq => ?_
          rw [f2] at hx; cases hx
          exact KeyOrd.kle_of_klt (hk2 q hq)
    · rw [if_neg hk0]
      have hke : k = j - 1 := by omega
      rw [hke] at hk2
      refine wp_hiA L hP S M2 hi (by omega) (by omega) hia (by omega) fun x hx q hq => ?_
      rw [f2] at hx; cases hx
      exact KeyOrd.kle_of_klt (hk2 q hq)
theorem wp_hiC {st st' : SortSt} {a b out : Array Keyed} {i j g ac bc N : Nat} {P : ForInStep HiT → SortSt → Prop} (hO : κ.OneLt) (hk : kindOf st = oneType') (L : Hi κ a b) (hP : HiP κ a b st N P) (S0 : Sm st st') (M : MH κ a b out i j) (hi : 0 < i) (hj : 1 < j) (hN : i + j ≤ N) (hia : i ≤ a.size) (hjb : j ≤ b.size) :
    wpS (model prog w) A E s (hiC a b out i j g ac bc) P st' := by
  unfold hiC
  refine wpS_bind (wp_setG fun st2 S2 => ?_)
  have S := S0.trans S2
  obtain ⟨p, e1, e2, e3⟩ := L.atB (i := j - 1) (by omega)
  refine wpS_bind (wp_elem e1 ?_)
  refine wpS_bind (wp_gR hO (S.k.trans hk) L.K e3 (fun p hp => List.mem_append_left _ hp) (by omega) (by omega) (by rw [List.drop_zero]; exact L.sa.sublist (List.take_sublist _ _)) fun k hk1 hk2 hk3 => ?_)
  rw [List.drop_zero] at hk2 hk3
  have hlast : ∀ q ∈ b.toList.take j, R κ q p := by
    have := tl_le L.sb e2
    rwa [show j - 1 + 1 = j by omega] at this
  have M3 := M.a L.sa (k := k) hk1 (fun r hr q hq => KeyOrd.kle_trans (hlast q hq) (KeyOrd.kle_of_klt (hk3 r hr)))
  rw [← ext_rev] at M3
  have hB : ∀ x, b.toList[j - 1]? = some x → ∀ q ∈ a.toList.take k, R κ q x := fun x hx q hq => by
    rw [e2] at hx; cases hx
    exact hk2 q hq
  dsimp only
  by_cases hk0 : i - k > 0
  · rw [if_pos hk0]
    by_cases c1 : k = 0
    · rw [if_pos (by simpa using c1)]
      exact wpS_pure (hP.r _ _ _ _ _ _ _ _ S (L.done M3 (.inl c1)))
    · rw [if_neg (by simpa using c1)]
      exact wp_hiB hO hk L hP S M3 (by omega) hj (by omega) (by omega) hjb hB
  · rw [if_neg hk0]
    have hke : k = i := by omega
    rw [hke] at hB
    exact wp_hiB hO hk L hP S M hi hj hN hia hjb hB
theorem wp_mergeHi {st : SortSt} {a b : Array Keyed} {a9 : Keyed} {Q : Array Keyed → SortSt → Prop} (hO : κ.OneLt) (hk : kindOf st = oneType') (L : Hi κ a b) (nb : 0 < b.size) (ha9 : a[a.size - 1]? = some a9) (h1 : ∀ q ∈ b.toList, R κ q a9)
    (q : ∀ r st', Sm st st' → Good κ a.toList b.toList r.toList → Q r st') : wpS (model prog w) A E s (mergeHi' a b) Q st := by
  have na : 0 < a.size := by
    rcases Nat.eq_zero_or_pos a.size with h | h
    · rw [Array.getElem?_eq_none (by omega)] at ha9; cases ha9
    · exact h
  have la : a.toList.length = a.size := Array.length_toList
  have lb : b.toList.length = b.size := Array.length_toList
  have M0 : MH κ a b #[a9] (a.size - 1) b.size := by
    have e0 := at_list ha9
    have ed : a.toList.drop (a.size - 1) = [a9] := by rw [dr_cons e0, List.drop_eq_nil_of_le (by omega)]
    refine ⟨List.pairwise_singleton _ _, by rw [ed, List.drop_eq_nil_of_le (as := b.toList) (by omega)]; exact List.Perm.refl _, fun p hp r hr => ?_⟩
    have hr : r ∈ [a9] := hr
    rw [List.mem_singleton.mp hr]
    rcases List.mem_append.mp hp with hp | hp
    · exact tl_le L.sa e0 p (by rw [List.take_of_length_le (by omega)]; exact List.mem_of_mem_take hp)
    · exact h1 p (List.mem_of_mem_take hp)
  refine wpS_bind (wpS_lift (wpAny_rule ⟨rfl, ?_⟩))
  refine wpS_bind (wp_elem ha9 ?_)
  by_cases c1 : a.size - 1 = 0
  · rw [if_pos (by simpa using c1)]
    exact wpS_pure (q _ _ (Sm.refl _) (L.done M0 (.inl c1)))
  rw [if_neg (by simpa using c1)]
  by_cases c2 : b.size = 1
  · rw [if_pos (by simpa using c2)]
    exact wpS_pure (q _ _ (Sm.refl _) (L.first M0 c2))
  rw [if_neg (by simpa using c2)]
  refine wpS_bind (wpS_get ?_)
  refine wpS_bind (wpS_mono (wpS_forRange (I := fun x c st' => ∃ (out : Array Keyed) (i j g : Nat), c = (none, i, j, out, g) ∧ Sm st st' ∧ MH κ a b out i j ∧ 0 < i ∧ 1 < j ∧ i + j + x + 1 ≤ a.size + b.size ∧ i ≤ a.size ∧ j ≤ b.size)
    (Q := fun c st' => ∃ (r out : Array Keyed) (i j g : Nat), c = (some r, i, j, out, g) ∧ Sm st st' ∧ Good κ a.toList b.toList r.toList) ?step ?fin ?init) ?post)
  case init => exact ⟨_, _, _, _, rfl, Sm.refl _, M0, by omega, by omega, by omega, by omega, by omega⟩
  case fin =>
    rintro c st' ⟨out, i, j, g, rfl, S, M, hi, hj, hx, _, _⟩
    exfalso
    rw [show max 0 (a.size + b.size) = a.size + b.size by omega] at hx
    omega
  case post =>
    rintro c st' ⟨r, out, i, j, g, rfl, S, G⟩
    exact wpS_pure (q r st' S G)
  case step =>
    rintro x c st' _ hx ⟨out, i, j, g, rfl, S, M, hi, hj, hxij, hia, hjb⟩
    refine wpS_bind (wpS_mono (wpS_forRange (I := fun y c st2 => ∃ (out : Array Keyed) (i j ac bc : Nat), c = (none, i, j, out, ac, bc) ∧ Sm st st2 ∧ MH κ a b out i j ∧ 0 < i ∧ 1 < j ∧ i + j + x + 1 + y ≤ a.size + b.size ∧ i ≤ a.size ∧ j ≤ b.size)
      (Q := fun c st2 => (∃ (r out : Array Keyed) (i j ac bc : Nat), c = (some r, i, j, out, ac, bc) ∧ Sm st st2 ∧ Good κ a.toList b.toList r.toList) ∨ ∃ (out : Array Keyed) (i j ac bc : Nat), c = (none, i, j, out, ac, bc) ∧ Sm st st2 ∧ MH κ a b out i j ∧ 0 < i ∧ 1 < j ∧ i + j ≤ a.size + b.size - (x + 2) ∧ i ≤ a.size ∧ j ≤ b.size) ?s1 ?f1 ?i1) ?p1)
    case i1 => exact ⟨_, _, _, _, _, rfl, S, M, hi, hj, by omega, hia, hjb⟩
    case f1 =>
      rintro c st2 ⟨out, i, j, ac, bc, rfl, S, M, hi, hj, hij, hia, hjb⟩
      rw [show max 0 (a.size + b.size) = a.size + b.size by omega] at hij
      exact .inr ⟨_, _, _, _, _, rfl, S, M, hi, hj, by omega, hia, hjb⟩
    case s1 =>
      rintro y c st2 _ hy ⟨out, i, j, ac, bc, rfl, S, M, hi, hj, hij, hia, hjb⟩
      obtain ⟨pb, b1, b2, b3⟩ := L.atB (i := j - 1) (by omega)
      obtain ⟨pa, a1, a2, a3⟩ := L.atA (i := i - 1) (by omega)
      have ta := tl_le L.sa a2
      have tb := tl_le L.sb b2
      rw [show i - 1 + 1 = i by omega] at ta
      rw [show j - 1 + 1 = j by omega] at tb
      refine wpS_bind (wp_elem b1 ?_)
      refine wpS_bind (wp_elem a1 ?_)
      refine wpS_bind (wp_ltR hO (S.k.trans hk) L.K b3 a3 (fun hlt => ?_) (fun hle => ?_))
      · dsimp only
        rw [if_pos rfl]
        refine wpS_bind (wp_elem a1 ?_)
        have M2 := MH.pushA L M hi a2 fun q hq => KeyOrd.kle_trans (tb q hq) (KeyOrd.kle_of_klt hlt)
        by_cases c : i - 1 = 0
        · rw [if_pos (by simpa using c)]
          exact wpS_pure (.inl ⟨_, _, _, _, _, _, rfl, S, L.done M2 (.inl c)⟩)
        · rw [if_neg (by simpa using c)]
          split
          · exact wpS_pure (.inr ⟨_, _, _, _, _, rfl, S, M2, by omega, hj, by omega, by omega, hjb⟩)
          · exact wpS_pure ⟨_, _, _, _, _, rfl, S, M2, by omega, hj, by omega, by omega, hjb⟩
      · dsimp only
        rw [if_neg (by decide)]
        refine wpS_bind (wp_elem b1 ?_)
        have M2 := MH.pushB L M (by omega) b2 fun q hq => KeyOrd.kle_trans (ta q hq) hle
        by_cases c : j - 1 = 1
        · rw [if_pos (by simpa using c)]
          exact wpS_pure (.inl ⟨_, _, _, _, _, _, rfl, S, L.first M2 c⟩)
        · rw [if_neg (by simpa using c)]
          split
          · exact wpS_pure (.inr ⟨_, _, _, _, _, rfl, S, M2, hi, by omega, by omega, hia, by omega⟩)
          · exact wpS_pure ⟨_, _, _, _, _, rfl, S, M2, hi, by omega, by omega, hia, by omega⟩
    case p1 =>
      rintro c st2 (⟨r, out, i, j, ac, bc, rfl, S, G⟩ | ⟨out, i, j, ac, bc, rfl, S, M, hi, hj, hij, hia, hjb⟩)
      · exact wpS_pure ⟨r, _, _, _, _, rfl, S, G⟩
      · refine wpS_bind (wpS_lift (wpAny_rule ⟨rfl, ?_⟩))
        refine wpS_bind (wpS_mono (wpS_forRange (I := fun y c st3 => ∃ (out : Array Keyed) (i j g ac bc : Nat), c = (none, i, j, out, g, ac, bc) ∧ Sm st st3 ∧ MH κ a b out i j ∧ 0 < i ∧ 1 < j ∧ i + j ≤ a.size + b.size - (x + 2) ∧ i ≤ a.size ∧ j ≤ b.size)
          (Q := fun c st3 => (∃ (r out : Array Keyed) (i j g ac bc : Nat), c = (some r, i, j, out, g, ac, bc) ∧ Sm st st3 ∧ Good κ a.toList b.toList r.toList) ∨ ∃ (out : Array Keyed) (i j g ac bc : Nat), c = (none, i, j, out, g, ac, bc) ∧ Sm st st3 ∧ MH κ a b out i j ∧ 0 < i ∧ 1 < j ∧ i + j ≤ a.size + b.size - (x + 2) ∧ i ≤ a.size ∧ j ≤ b.size) ?s2 ?f2 ?i2) ?p2)
        case i2 => exact ⟨_, _, _, _, _, _, rfl, S, M, hi, hj, hij, hia, hjb⟩
        case f2 => exact fun c st3 h => .inr h
        case p2 =>
          rintro c st3 (⟨r, out, i, j, g, ac, bc, rfl, S, G⟩ | ⟨out, i, j, g, ac, bc, rfl, S, M, hi, hj, hij, hia, hjb⟩)
          · exact wpS_pure ⟨r, _, _, _, _, rfl, S, G⟩
          · have hij2 : i + j + (x + 1) + 1 ≤ a.size + b.size := by omega
            exact wpS_bind (wp_setG fun st4 S4 => wpS_pure ⟨_, _, _, _, rfl, S.trans S4, M, hi, hj, hij2, hia, hjb⟩)
        case s2 =>
          rintro y c st3 _ hy ⟨out, i, j, g, ac, bc, rfl, S, M, hi, hj, hij, hia, hjb⟩
          show wpS _ _ _ _ (if g > 1 then hiC a b out i j (g - 1) ac bc else hiC a b out i j g ac bc) _ _
          by_cases hg : g > 1
          · rw [if_pos hg]
            exact wp_hiC (N := a.size + b.size - (x + 2)) hO hk L ⟨fun r out i j g ac bc st' S G => .inl ⟨r, out, i, j, g, ac, bc, rfl, S, G⟩, fun out i j g ac bc st' S M h1 h2 h3 h4 h5 => .inr ⟨out, i, j, g, ac, bc, rfl, S, M, h1, h2, h3, h4, h5⟩, fun out i j g ac bc st' S M h1 h2 h3 h4 h5 => ⟨out, i, j, g, ac, bc, rfl, S, M, h1, h2, h3, h4, h5⟩⟩ S M hi hj hij hia hjb
          · rw [if_neg hg]
            exact wp_hiC (N := a.size + b.size - (x + 2)) hO hk L ⟨fun r out i j g ac bc st' S G => .inl ⟨r, out, i, j, g, ac, bc, rfl, S, G⟩, fun out i j g ac bc st' S M h1 h2 h3 h4 h5 => .inr ⟨out, i, j, g, ac, bc, rfl, S, M, h1, h2, h3, h4, h5⟩, fun out i j g ac bc st' S M h1 h2 h3 h4 h5 => ⟨out, i, j, g, ac, bc, rfl, S, M, h1, h2, h3, h4, h5⟩⟩ S M hi hj hij hia hjb
end
end Zs
set_option Elab.async false
set_option linter.all false
set_option maxRecDepth 100000
set_option autoImplicit false
namespace Zs
open PySem PyProof.Rows
theorem put_list (lo : Nat) : ∀ (m : List Keyed) (n : Nat) (ar : Array Keyed), lo + n + m.length ≤ ar.size → ((m.zipIdx n).foldl (fun a pj => a.setIfInBounds (lo + pj.2) pj.1) ar).toList = ar.toList.take (lo + n) ++ m ++ ar.toList.drop (lo + n + m.length)
  | [], n, ar, h => by
    show ar.toList = _
    rw [List.append_nil, List.length_nil, Nat.add_zero, List.take_append_drop]
  | p :: m, n, ar, h => by
    rw [List.length_cons] at h
    rw [List.zipIdx_cons, List.foldl_cons]
    have := put_list lo m (n + 1) (ar.setIfInBounds (lo + n) p) (by rw [Array.size_setIfInBounds]; omega)
    have hl : ar.toList.length = ar.size := Array.length_toList
    rw [show (((p, n) : Keyed × Nat).2) = n from rfl, show (((p, n) : Keyed × Nat).1) = p from rfl, this, Array.toList_setIfInBounds, List.drop_set_of_lt (by omega)]
    have e1 : (ar.toList.set (lo + n) p).take (lo + (n + 1)) = ar.toList.take (lo + n) ++ [p] := by
      rw [show lo + (n + 1) = lo + n + 1 by omega, List.take_add_one, List.take_set_of_le (Nat.le_refl _), List.getElem?_set_self (by omega)]
      rfl
    rw [e1, List.length_cons, show lo + (n + 1) + m.length = lo + n + (m.length + 1) by omega, List.append_assoc (ar.toList.take (lo + n))]
    rfl
section
variable {κ : PyProof.Rows.KeyKind}
theorem KK_ky {xs : Array Keyed} {i : Nat} {p : Keyed} (h : xs[i]? = some p) : KK κ xs i = kyOf κ p := by unfold KK kyOf; rw [h]
theorem seg_pw {xs : Array Keyed} {lo n : Nat} (h : lo + n ≤ xs.size) : Seg κ xs lo n ↔ ((xs.toList.drop lo).take n).Pairwise (R κ) := by
  have hl : xs.toList.length = xs.size := Array.length_toList
  have hlen : ((xs.toList.drop lo).take n).length = n := by rw [List.length_take, List.length_drop]; omega
  have hat : ∀ i (hi : i < n), xs[lo + i]? = some (((xs.toList.drop lo).take n)[i]'(by omega)) := fun i hi => by
    rw [List.getElem_take, List.getElem_drop, Array.getElem_toList]
    exact getElem?_pos xs (lo + i) (by omega)
  rw [List.pairwise_iff_getElem]
  constructor
  · intro g i j hi hj hij
    have := g i j (by omega) (by omega)
    rw [KK_ky (hat i (by omega)), KK_ky (hat j (by omega))] at this
    exact this
  · intro g i j hij hj
    by_cases e : i = j
    · rw [e]; exact KeyOrd.kle_refl _
    · rw [KK_ky (hat i (by omega)), KK_ky (hat j (by omega))]
      exact g i j (by omega) (by omega) (by omega)
theorem out_list {xs ys : Array Keyed} {lo hi : Nat} (hh : lo ≤ hi) (h : hi ≤ xs.size) (m : List Keyed) (hm : m.length = hi - lo) (e : ys.toList = xs.toList.take lo ++ m ++ xs.toList.drop hi) : Out lo hi xs ys := by
  have hl : xs.toList.length = xs.size := Array.length_toList
  intro k hk
  rw [← Array.getElem?_toList, ← Array.getElem?_toList, e]
  rcases hk with hk | hk
  · rw [List.append_assoc, List.getElem?_append_left (by rw [List.length_take]; omega), List.getElem?_take_of_lt hk]
  · rw [List.getElem?_append_right (by rw [List.length_append, List.length_take]; omega), List.getElem?_drop]
    congr 1
    rw [List.length_append, List.length_take]; omega
/-- a₁ ≤ a₂, b₁, b₂; b₂ ≥ all -/
theorem whole_pw {A1 A2 B1 B2 m : List Keyed} {b0 a9 : Keyed} (hA : (A1 ++ A2).Pairwise (R κ)) (hB : (B1 ++ B2).Pairwise (R κ)) (hm : m.Perm (A2 ++ B1)) (hp : m.Pairwise (R κ)) (h1 : ∀ p ∈ A1, R κ p b0) (h2 : ∀ q ∈ B1 ++ B2, R κ b0 q) (h3 : ∀ q ∈ B2, R κ a9 q) (h4 : ∀ p ∈ A1 ++ A2, R κ p a9) : (A1 ++ m ++ B2).Pairwise (R κ) := by
  rw [List.pairwise_append] at hA hB
  rw [List.append_assoc, List.pairwise_append, List.pairwise_append]
  refine ⟨hA.1, ⟨hp, hB.2.1, fun p hp' q hq => ?_⟩, fun p hp' q hq => ?_⟩
  · rcases List.mem_append.mp (hm.mem_iff.mp hp') with h | h
    · exact (h4 p (List.mem_append_right _ h)).trans (h3 q hq)
    · exact hB.2.2 p h q hq
  · rcases List.mem_append.mp hq with hq | hq
    · rcases List.mem_append.mp (hm.mem_iff.mp hq) with h | h
      · exact hA.2.2 p hp' q h
      · exact (h1 p hp').trans (h2 q (List.mem_append_left _ h))
    · exact (h1 p hp').trans (h2 q (List.mem_append_right _ hq))
end
section
variable {prog : Program} {w : World} {A : Around} {E : Value → Shared → Prop} {s : Shared} {a₀ : Array Keyed} {κ : PyProof.Rows.KeyKind}
theorem wp_set {st st2 : SortSt} {Q : PUnit → SortSt → Prop} (h : Q ⟨⟩ st2) : wpS (model prog w) A E s (set st2 : StateT SortSt Sem PUnit) Q st := by
  unfold wpS; rw [StateT.run_set]; exact wpAny_pure ⟨rfl, h⟩
theorem wp_mergeAt {st : SortSt} {i sa na sb nb pw pw2 : Nat} {Q : Bool → SortSt → Prop} (hO : κ.OneLt) (h0 : KeysOf κ a₀) (hB : SB a₀ st) (e1 : (pendingOf st)[i]? = some (sa, na, pw)) (e2 : (pendingOf st)[i + 1]? = some (sb, nb, pw2)) (hsb : sb = sa + na) (hna : 0 < na) (hnb : 0 < nb) (hsz : sb + nb ≤ a₀.size)
    (s1 : Seg κ (arrOf st) sa na) (s2 : Seg κ (arrOf st) sb nb)
    (q : ∀ st', SB a₀ st' → pendingOf st' = ((pendingOf st).setIfInBounds i (sa, na + nb, pw)).eraseIdxIfInBounds (i + 1) → Out sa (sb + nb) (arrOf st) (arrOf st') → Seg κ (arrOf st') sa (na + nb) → Q true st') : wpS (model prog w) A E s (mergeAt' i) Q st := by
  have hsz' : (arrOf st).size = a₀.size := hB.size
  have hl : (arrOf st).toList.length = (arrOf st).size := Array.length_toList
  have hK : Kd κ (arrOf st).toList := fun p hp => h0 p ((Array.perm_iff_toList_perm.mp hB.perm).mem_iff.mp hp)
  subst hsb
  refine wpS_bind (wpS_get ?_)
  rw [e1, e2]
  refine wpS_bind (wp_set ?_)
  show wpS (model prog w) A E s _ Q (SortSt.mk' (kindOf st) (arrOf st) (((pendingOf st).setIfInBounds i (sa, na + nb, pw)).eraseIdxIfInBounds (i + 1)) (gallopOf st) (failedOf st))
  generalize hst1 : SortSt.mk' (kindOf st) (arrOf st) (((pendingOf st).setIfInBounds i (sa, na + nb, pw)).eraseIdxIfInBounds (i + 1)) (gallopOf st) (failedOf st) = st1
  have k1 : kindOf st1 = oneType' := by rw [← hst1]; exact hB.kind
  have a1 : arrOf st1 = arrOf st := by rw [← hst1]
  have p1 : pendingOf st1 = ((pendingOf st).setIfInBounds i (sa, na + nb, pw)).eraseIdxIfInBounds (i + 1) := by rw [← hst1]
  have f1 : failedOf st1 = none := by rw [← hst1]; exact hB.failed
  have B1 : SB a₀ st1 := ⟨by rw [a1]; exact hB.perm, k1, f1⟩
  have same : Seg κ (arrOf st) sa (na + nb) → Q true st1 := fun g => q st1 B1 p1 (by rw [a1]; exact Out.refl _) (by rw [a1]; exact g)
  clear hst1
  -- lists
  have eA := (seg_pw (κ := κ) (xs := arrOf st) (lo := sa) (n := na) (by omega)).mp s1
  have eB := (seg_pw (κ := κ) (xs := arrOf st) (lo := sa + na) (n := nb) (by omega)).mp s2
  generalize hLA : ((arrOf st).toList.drop sa).take na = LA at eA
  generalize hLB : ((arrOf st).toList.drop (sa + na)).take nb = LB at eB
  have lA : LA.length = na := by rw [← hLA, List.length_take, List.length_drop]; omega
  have lB : LB.length = nb := by rw [← hLB, List.length_take, List.length_drop]; omega
  have inA : ∀ p ∈ LA, p ∈ (arrOf st).toList := fun p hp => by rw [← hLA] at hp; exact List.mem_of_mem_drop (List.mem_of_mem_take hp)
  have inB : ∀ p ∈ LB, p ∈ (arrOf st).toList := fun p hp => by rw [← hLB] at hp; exact List.mem_of_mem_drop (List.mem_of_mem_take hp)
  have eAB : ((arrOf st).toList.drop sa).take (na + nb) = LA ++ LB := by rw [List.take_add, List.drop_drop, hLA, hLB]
  obtain ⟨b0, hb0⟩ : ∃ b0, LB[0]? = some b0 := ⟨_, List.getElem?_eq_getElem (by omega)⟩
  obtain ⟨a9, ha9⟩ : ∃ a9, LA[na - 1]? = some a9 := ⟨_, List.getElem?_eq_getElem (by omega)⟩
  have hb0' : (arrOf st)[sa + na]? = some b0 := by
    rw [← hLB, List.getElem?_take_of_lt (by omega), List.getElem?_drop, Array.getElem?_toList] at hb0
    exact hb0
  have ha9' : (arrOf st)[sa + na - 1]? = some a9 := by
    rw [← hLA, List.getElem?_take_of_lt (by omega), List.getElem?_drop, Array.getElem?_toList, show sa + (na - 1) = sa + na - 1 by omega] at ha9
    exact ha9
  have mb0 := inB _ (List.mem_of_getElem? hb0)
  have ma9 := inA _ (List.mem_of_getElem? ha9)
  have b0le : ∀ r ∈ LB, R κ b0 r := by have := hd_le eB hb0; rwa [List.drop_zero] at this
  have lea9 : ∀ r ∈ LA, R κ r a9 := by have := tl_le eA ha9; rwa [show na - 1 + 1 = na by omega, List.take_of_length_le (by omega)] at this
  refine wpS_bind (wp_elem hb0' ?_)
  refine wpS_bind (wp_gR (ar := arrOf st) hO k1 hK mb0 (fun p hp => hp) (by omega) hna (by rw [hLA]; exact eA) fun k hk1 hk2 hk3 => ?_)
  have hA1 : ((arrOf st).toList.drop sa).take k = LA.take k := by rw [← hLA, List.take_take, Nat.min_eq_left hk1]
  rw [hA1] at hk2
  rw [hLA] at hk3
  dsimp only
  by_cases c1 : na - k = 0
  · rw [if_pos (by simpa using c1)]
    refine wpS_pure (same ((seg_pw (by omega)).mpr ?_))
    rw [eAB, List.pairwise_append]
    rw [List.take_of_length_le (by omega)] at hk2
    exact ⟨eA, eB, fun p hp r hr => (hk2 p hp).trans (b0le r hr)⟩
  rw [if_neg (by simpa using c1), show sa + k + (na - k) - 1 = sa + na - 1 by omega]
  refine wpS_bind (wp_elem ha9' ?_)
  refine wpS_bind (wp_gL (ar := arrOf st) hO k1 hK ma9 (fun p hp => hp) (by omega) (by omega) (by rw [hLB]; exact eB) fun j hj1 hj2 hj3 => ?_)
  have hB1 : ((arrOf st).toList.drop (sa + na)).take j = LB.take j := by rw [← hLB, List.take_take, Nat.min_eq_left hj1]
  rw [hB1] at hj2
  rw [hLB] at hj3
  dsimp only
  by_cases c2 : j = 0
  · rw [if_pos (by simpa using c2)]
    refine wpS_pure (same ((seg_pw (by omega)).mpr ?_))
    rw [eAB, List.pairwise_append]
    rw [c2, List.drop_zero] at hj3
    exact ⟨eA, eB, fun p hp r hr => (lea9 p hp).trans (hj3 r hr)⟩
  rw [if_neg (by simpa using c2)]
  -- the two to merge
  have ex : ((arrOf st).extract (sa + k) (sa + na)).toList = LA.drop k := by rw [ex_list, ← hLA, List.drop_take, List.drop_drop, show sa + na - (sa + k) = na - k by omega]
  have ey : ((arrOf st).extract (sa + na) (sa + na + j)).toList = LB.take j := by rw [ex_list, Nat.add_sub_cancel_left, hB1]
  have sx : ((arrOf st).extract (sa + k) (sa + na)).size = na - k := by rw [← Array.length_toList, ex, List.length_drop]; omega
  have sy : ((arrOf st).extract (sa + na) (sa + na + j)).size = j := by rw [← Array.length_toList, ey, List.length_take]; omega
  have fin : ∀ (r : Array Keyed) (st2 : SortSt), Sm st1 st2 → Good κ (LA.drop k) (LB.take j) r.toList → Q true (setArr st2 (r.toList.zipIdx.foldl (fun a pj => a.setIfInBounds (sa + k + pj.2) pj.1) (arrOf st2))) := fun r st2 S2 G => by
    have hlr : r.toList.length = na - k + j := by rw [G.1.length_eq, List.length_append, List.length_drop, List.length_take]; omega
    have hpl := put_list (sa + k) r.toList 0 (arrOf st2) (by rw [S2.a, a1]; omega)
    rw [Nat.add_zero, hlr, S2.a, a1] at hpl
    generalize hys : r.toList.zipIdx.foldl (fun a pj => a.setIfInBounds (sa + k + pj.2) pj.1) (arrOf st2) = ys at *
    rw [S2.a, a1] at hys
    rw [hys] at hpl
    have hw := whole_pw (A1 := LA.take k) (A2 := LA.drop k) (B1 := LB.take j) (B2 := LB.drop j) (by rw [List.take_append_drop]; exact eA) (by rw [List.take_append_drop]; exact eB) G.1 G.2 hk2 (by rw [List.take_append_drop]; exact b0le) hj3 (by rw [List.take_append_drop]; exact lea9)
    have e9 : (arrOf st).toList = (arrOf st).toList.take sa ++ (LA ++ LB) ++ (arrOf st).toList.drop (sa + na + nb) := by
      rw [← eAB, List.append_assoc]
      conv => lhs; rw [← List.take_append_drop sa (arrOf st).toList]
      congr 1
      conv => lhs; rw [← List.take_append_drop (na + nb) ((arrOf st).toList.drop sa)]
      rw [List.drop_drop, Nat.add_assoc]
    have eT : (arrOf st).toList.take (sa + k) = (arrOf st).toList.take sa ++ LA.take k := by rw [List.take_add, hA1]
    have eD : (arrOf st).toList.drop (sa + k + (na - k + j)) = LB.drop j ++ (arrOf st).toList.drop (sa + na + nb) := by
      rw [show sa + k + (na - k + j) = sa + na + j by omega, ← hLB, List.drop_take, List.drop_drop]
      conv => lhs; rw [← List.take_append_drop (nb - j) ((arrOf st).toList.drop (sa + na + j))]
      rw [List.drop_drop, show sa + na + j + (nb - j) = sa + na + nb by omega]
    have eY : ys.toList = (arrOf st).toList.take sa ++ (LA.take k ++ r.toList ++ LB.drop j) ++ (arrOf st).toList.drop (sa + na + nb) := by
      rw [hpl, eT, eD]
      simp only [List.append_assoc]
    have hpm : (LA.take k ++ r.toList ++ LB.drop j).Perm (LA ++ LB) := by
      refine ((List.Perm.append_left _ G.1).append_right _).trans ?_
      rw [← List.append_assoc, List.take_append_drop, List.append_assoc, List.take_append_drop]
    have hperm : ys.Perm (arrOf st) := by
      refine Array.perm_iff_toList_perm.mpr ?_
      rw [eY]
      conv => rhs; rw [e9]
      exact (List.Perm.append_left _ hpm).append_right _
    refine q _ ⟨hperm.trans hB.perm, S2.k.trans k1, S2.f.trans f1⟩ (S2.p.trans p1) ?_ ?_
    · exact out_list (by omega) (by omega) _ (by rw [hpm.length_eq, List.length_append, lA, lB]; omega) eY
    · have hys2 : ys.size = (arrOf st).size := hperm.size_eq
      refine (seg_pw (by show _ ≤ ys.size; omega)).mpr ?_
      show ((ys.toList.drop sa).take (na + nb)).Pairwise (R κ)
      rw [eY, List.append_assoc, List.drop_left' (by rw [List.length_take]; omega), List.take_left' (by rw [hpm.length_eq, List.length_append, lA, lB])]
      exact hw
  have Kx : Kd κ (((arrOf st).extract (sa + k) (sa + na)).toList ++ ((arrOf st).extract (sa + na) (sa + na + j)).toList) := by
    rw [ex, ey]
    intro p hp
    rcases List.mem_append.mp hp with hp | hp
    · exact hK p (inA p (List.mem_of_mem_drop hp))
    · exact hK p (inB p (List.mem_of_mem_take hp))
  have pX : ((arrOf st).extract (sa + k) (sa + na)).toList.Pairwise (R κ) := by rw [ex]; exact eA.sublist (List.drop_sublist _ _)
  have pY : ((arrOf st).extract (sa + na) (sa + na + j)).toList.Pairwise (R κ) := by rw [ey]; exact eB.sublist (List.take_sublist _ _)
  have atY : ((arrOf st).extract (sa + na) (sa + na + j))[0]? = some b0 := by rw [← Array.getElem?_toList, ey, List.getElem?_take_of_lt (by omega)]; exact hb0
  have atX : ((arrOf st).extract (sa + k) (sa + na))[((arrOf st).extract (sa + k) (sa + na)).size - 1]? = some a9 := by
    rw [← Array.getElem?_toList, ex, sx, List.getElem?_drop, show k + (na - k - 1) = na - 1 by omega]; exact ha9
  have bLow : ∀ r ∈ LA.drop k, R κ b0 r := fun r hr => KeyOrd.kle_of_klt (hk3 r hr)
  have aTop : ∀ r ∈ LB.take j, R κ r a9 := fun r hr => KeyOrd.kle_of_klt (hj2 r hr)
  have last : ∀ (r : Array Keyed) (st2 : SortSt), Sm st1 st2 → Good κ ((arrOf st).extract (sa + k) (sa + na)).toList ((arrOf st).extract (sa + na) (sa + na + j)).toList r.toList → wpS (model prog w) A E s (do
      modify fun st3 => setArr st3 (r.toList.zipIdx.foldl (fun a pj => a.setIfInBounds (sa + k + pj.2) pj.1) (arrOf st3))
      let st4 ← get
      pure (failedOf st4).isNone) Q st2 := fun r st2 S2 G => by
    rw [ex, ey] at G
    refine wpS_bind (wpS_modify ?_)
    refine wpS_bind (wpS_get ?_)
    refine wpS_pure ?_
    have := fin r st2 S2 G
    rw [show (failedOf (setArr st2 (r.toList.zipIdx.foldl (fun a pj => a.setIfInBounds (sa + k + pj.2) pj.1) (arrOf st2)))).isNone = true from by
      show (failedOf st2).isNone = true
      rw [S2.f, f1]; rfl]
    exact this
  split
  · refine wpS_bind (wp_mergeLo (a := (arrOf st).extract (sa + k) (sa + na)) (b := (arrOf st).extract (sa + na) (sa + na + j)) hO k1 ⟨Kx, pX, pY, fun r hr p hp => ?_⟩ (by rw [sx]; omega) atY (by rw [ex]; exact bLow) fun r st2 S2 G => last r st2 S2 G)
    rw [atX] at hp; cases hp
    rw [ey] at hr
    exact aTop r hr
  · refine wpS_bind (wp_mergeHi (a := (arrOf st).extract (sa + k) (sa + na)) (b := (arrOf st).extract (sa + na) (sa + na + j)) hO k1 ⟨Kx, pX, pY, fun r hr p hp => ?_⟩ (by rw [sy]; omega) atX (by rw [ey]; exact aTop) fun r st2 S2 G => last r st2 S2 G)
    rw [atY] at hp; cases hp
    rw [ex] at hr
    exact bLow r hr
end
end Zs
set_option Elab.async false
set_option linter.all false
set_option maxRecDepth 100000
set_option autoImplicit false
namespace Zs
open PySem PyProof.Rows
section
variable {κ : PyProof.Rows.KeyKind}
/-- runs one behind the other, each rising -/
def Chn (κ : PyProof.Rows.KeyKind) (xs : Array Keyed) : List (Nat × Nat × Nat) → Nat → Nat → Prop
  | [], s, e => s = e
  | r :: t, s, e => r.1 = s ∧ 0 < r.2.1 ∧ Seg κ xs s r.2.1 ∧ Chn κ xs t (s + r.2.1) e
theorem Chn.le {xs : Array Keyed} : ∀ {l : List (Nat × Nat × Nat)} {s e : Nat}, Chn κ xs l s e → s + l.length ≤ e
  | [], s, e, h => by have h : s = e := h; rw [List.length_nil]; omega
  | r :: t, s, e, h => by
    obtain ⟨_, h2, _, h4⟩ := h
    have := Chn.le h4
    rw [List.length_cons]; omega
theorem Chn.app {xs : Array Keyed} : ∀ {l m : List (Nat × Nat × Nat)} {s e : Nat}, Chn κ xs (l ++ m) s e ↔ ∃ k, Chn κ xs l s k ∧ Chn κ xs m k e
  | [], m, s, e => ⟨fun h => ⟨s, rfl, h⟩, fun ⟨k, h1, h2⟩ => by have h1 : s = k := h1; rw [h1]; exact h2⟩
  | r :: t, m, s, e => by
    constructor
    · rintro ⟨h1, h2, h3, h4⟩
      obtain ⟨k, g1, g2⟩ := Chn.app.mp h4
      exact ⟨k, ⟨h1, h2, h3, g1⟩, g2⟩
    · rintro ⟨k, ⟨h1, h2, h3, h4⟩, g⟩
      exact ⟨h1, h2, h3, Chn.app.mpr ⟨k, h4, g⟩⟩
theorem Chn.cong {xs ys : Array Keyed} : ∀ {l : List (Nat × Nat × Nat)} {s e : Nat}, Chn κ xs l s e → (∀ k, s ≤ k → k < e → ys[k]? = xs[k]?) → Chn κ ys l s e
  | [], s, e, h, _ => h
  | r :: t, s, e, ⟨h1, h2, h3, h4⟩, g => by
    have hle := Chn.le h4
    exact ⟨h1, h2, h3.cong fun k k1 k2 => g k k1 (by omega), h4.cong fun k k1 k2 => g k (by omega) k2⟩
theorem Chn.mod {xs : Array Keyed} {f : Nat × Nat × Nat → Nat × Nat × Nat} (hf : ∀ r, (f r).1 = r.1 ∧ (f r).2.1 = r.2.1) : ∀ {l : List (Nat × Nat × Nat)} {s e n : Nat}, Chn κ xs l s e → Chn κ xs (l.modify n f) s e
  | [], s, e, n, h => by rw [List.modify_nil]; exact h
  | r :: t, s, e, 0, ⟨h1, h2, h3, h4⟩ => by
    rw [List.modify_zero_cons]
    obtain ⟨f1, f2⟩ := hf r
    exact ⟨f1.trans h1, by rw [f2]; exact h2, by rw [f2]; exact h3, by rw [f2]; exact h4⟩
  | r :: t, s, e, n + 1, ⟨h1, h2, h3, h4⟩ => by
    rw [List.modify_succ_cons]
    exact ⟨h1, h2, h3, Chn.mod hf h4⟩
theorem set_erase {α : Type} (v : α) : ∀ {l : List α} {i : Nat} {x y : α}, l[i]? = some x → l[i + 1]? = some y → l = l.take i ++ x :: y :: l.drop (i + 2) ∧ (l.set i v).eraseIdx (i + 1) = l.take i ++ v :: l.drop (i + 2)
  | [], i, x, y, h, _ => by simp at h
  | a :: l, 0, x, y, h, g => by
    have : a = x := by simpa using h
    subst this
    cases l with
    | nil => simp at g
    | cons b l =>
      have : b = y := by simpa using g
      subst this
      exact ⟨rfl, rfl⟩
  | a :: l, i + 1, x, y, h, g => by
    obtain ⟨h1, h2⟩ := set_erase v (l := l) (i := i) (x := x) (y := y) (by simpa using h) (by simpa using g)
    refine ⟨?_, ?_⟩
    · show a :: l = a :: (l.take i ++ x :: y :: l.drop (i + 2))
      rw [← h1]
    · show a :: (l.set i v).eraseIdx (i + 1) = a :: (l.take i ++ v :: l.drop (i + 2))
      rw [h2]
end
section
variable {prog : Program} {w : World} {A : Around} {E : Value → Shared → Prop} {s : Shared} {a₀ : Array Keyed} {κ : PyProof.Rows.KeyKind}
abbrev Pd (κ : PyProof.Rows.KeyKind) (st : SortSt) (e : Nat) : Prop := Chn κ (arrOf st) (pendingOf st).toList 0 e
theorem wp_mergeC {st : SortSt} {i e : Nat} {Q : Bool → SortSt → Prop} (hO : κ.OneLt) (h0 : KeysOf κ a₀) (hB : SB a₀ st) (hC : Pd κ st e) (he : e ≤ a₀.size) (hi : i + 1 < (pendingOf st).size)
    (q : ∀ st', SB a₀ st' → Pd κ st' e → (pendingOf st').size + 1 = (pendingOf st).size → Out 0 e (arrOf st) (arrOf st') → Q true st') : wpS (model prog w) A E s (mergeAt' i) Q st := by
  obtain ⟨⟨sa, na, pw⟩, e1⟩ : ∃ x, (pendingOf st)[i]? = some x := ⟨_, getElem?_pos _ i (by omega)⟩
  obtain ⟨⟨sb, nb, pw2⟩, e2⟩ : ∃ x, (pendingOf st)[i + 1]? = some x := ⟨_, getElem?_pos _ (i + 1) hi⟩
  have l1 : (pendingOf st).toList[i]? = some (sa, na, pw) := by rw [Array.getElem?_toList]; exact e1
  have l2 : (pendingOf st).toList[i + 1]? = some (sb, nb, pw2) := by rw [Array.getElem?_toList]; exact e2
  obtain ⟨g1, g2⟩ := set_erase (sa, na + nb, pw) l1 l2
  have hC' := hC
  unfold Pd at hC'
  rw [g1] at hC'
  obtain ⟨k, c1, c2⟩ := Chn.app.mp hC'
  obtain ⟨d1, d2, d3, f1, f2, f3, f4⟩ := c2
  dsimp only at d1 d2 d3 f1 f2 f3 f4
  subst d1
  subst f1
  have hle := f4.le
  refine wp_mergeAt hO h0 hB e1 e2 rfl d2 f2 (by omega) d3 f3 fun st' B' p' o' s' => ?_
  have pl : (pendingOf st').toList = (pendingOf st).toList.take i ++ (sa, na + nb, pw) :: (pendingOf st).toList.drop (i + 2) := by
    rw [p', Array.toList_eraseIdxIfInBounds, Array.toList_setIfInBounds, g2]
  have hc1 := c1.le
  refine q st' B' ?_ ?_ (o'.mono (Nat.zero_le _) (by omega))
  · unfold Pd
    rw [pl]
    refine Chn.app.mpr ⟨sa, c1.cong fun k k1 k2 => o' k (.inl k2), rfl, by show 0 < na + nb; omega, s', ?_⟩
    show Chn κ (arrOf st') _ (sa + (na + nb)) e
    rw [← Nat.add_assoc]
    exact f4.cong fun k k1 k2 => o' k (.inr k1)
  · have h1 := congrArg List.length pl
    have h2 := congrArg List.length g1
    rw [List.length_append, List.length_cons, Array.length_toList] at h1
    rw [List.length_append, List.length_cons, List.length_cons, Array.length_toList] at h2
    omega
def runR (z lo n : Nat) : StateT SortSt Sem (ForInStep (Option Unit × Nat)) := do
  let st1 ← get
  match (pendingOf st1).back? with
  | some (b, m, _) => do
    let c ← forIn [0:z] ((none, ()) : Option Unit × Unit) fun _ _ => do
      let st2 ← get
      match (if (pendingOf st2).size > 1 then (pendingOf st2)[(pendingOf st2).size - 2]? else none) with
      | some (_, _, o) => if o ≤ power' z (2 * b + m) (2 * b + m + m + n) z then pure (ForInStep.done (none, ())) else do
          let r ← mergeAt' ((pendingOf st2).size - 2)
          if (!r) = true then pure (ForInStep.done (some (), ())) else pure (ForInStep.yield (none, ()))
      | _ => pure (ForInStep.done (none, ()))
    match c.1 with
    | some r => pure (ForInStep.done (some r, lo))
    | none => do
      modify fun st3 => setPending st3 ((pendingOf st3).modify ((pendingOf st3).size - 1) fun x => (x.1, x.2.1, power' z (2 * b + m) (2 * b + m + m + n) z))
      modify fun st3 => setPending st3 ((pendingOf st3).push (lo, n, 0))
      pure (ForInStep.yield (none, lo + n))
  | _ => do
    modify fun st3 => setPending st3 ((pendingOf st3).push (lo, n, 0))
    pure (ForInStep.yield (none, lo + n))
theorem wpS_eq {α : Type} {m m' : StateT SortSt Sem α} {Q : α → SortSt → Prop} {st : SortSt} (h : m = m') (g : wpS (model prog w) A E s m' Q st) : wpS (model prog w) A E s m Q st := by rw [h]; exact g
theorem Pd.push {st : SortSt} {lo n : Nat} (C : Pd κ st lo) (n1 : 1 ≤ n) (g : Seg κ (arrOf st) lo n) : Pd κ (setPending st ((pendingOf st).push (lo, n, 0))) (lo + n) := by
  show Chn κ (arrOf st) ((pendingOf st).push (lo, n, 0)).toList 0 (lo + n)
  rw [Array.toList_push]
  exact Chn.app.mpr ⟨lo, C, rfl, by show 0 < n; omega, g, rfl⟩
theorem wp_runR {st : SortSt} {lo n : Nat} {P : ForInStep (Option Unit × Nat) → SortSt → Prop} (hO : κ.OneLt) (h0 : KeysOf κ a₀) (B : SB a₀ st) (C : Pd κ st lo) (n1 : 1 ≤ n) (n2 : lo + n ≤ a₀.size) (g : Seg κ (arrOf st) lo n)
    (q : ∀ st', SB a₀ st' → Pd κ st' (lo + n) → P (ForInStep.yield (none, lo + n)) st') : wpS (model prog w) A E s (runR a₀.size lo n) P st := by
  unfold runR
  refine wpS_bind (wpS_get ?_)
  cases hb : (pendingOf st).back? with
  | none => exact wpS_bind (wpS_modify (wpS_pure (q _ ⟨B.perm, B.kind, B.failed⟩ (C.push n1 g))))
  | some r =>
    obtain ⟨b, m, o⟩ := r
    dsimp only
    refine wpS_bind (wpS_mono (wpS_forRange (I := fun x c st' => c = (none, ()) ∧ SB a₀ st' ∧ Pd κ st' lo ∧ Seg κ (arrOf st') lo n) (Q := fun c st' => c = (none, ()) ∧ SB a₀ st' ∧ Pd κ st' lo ∧ Seg κ (arrOf st') lo n) ?step ?fin ?init) ?post)
    case init => exact ⟨rfl, B, C, g⟩
    case fin => exact fun c st' h => h
    case post =>
      rintro c st' ⟨rfl, B', C', g'⟩
      dsimp only
      refine wpS_bind (wpS_modify ?_)
      refine wpS_bind (wpS_modify (wpS_pure (q _ ⟨B'.perm, B'.kind, B'.failed⟩ (Pd.push ?_ n1 g'))))
      show Chn κ (arrOf st') ((pendingOf st').modify ((pendingOf st').size - 1) _).toList 0 lo
      rw [Array.toList_modify]
      refine Chn.mod (fun r => ?_) C'
      exact ⟨rfl, rfl⟩
    case step =>
      rintro x c st' _ _ ⟨rfl, B', C', g'⟩
      refine wpS_bind (wpS_get ?_)
      by_cases hs : (pendingOf st').size > 1
      · rw [if_pos hs]
        obtain ⟨⟨u, v, o2⟩, e⟩ : ∃ y, (pendingOf st')[(pendingOf st').size - 2]? = some y := ⟨_, getElem?_pos _ _ (by omega)⟩
        rw [e]
        dsimp only
        split
        · exact wpS_pure ⟨rfl, B', C', g'⟩
        · refine wpS_bind (wp_mergeC hO h0 B' C' (by omega) (by omega) fun st2 B2 C2 _ o2 => ?_)
          rw [if_neg (by decide)]
          exact wpS_pure ⟨rfl, B2, C2, g'.cong fun k k1 k2 => o2 k (.inr k1)⟩
      · rw [if_neg hs]
        exact wpS_pure ⟨rfl, B', C', g'⟩
theorem wp_sortRuns {st : SortSt} {Q : Unit → SortSt → Prop} (hO : κ.OneLt) (h0 : KeysOf κ a₀) (hB : SB a₀ st) (hp : pendingOf st = #[])
    (q : ∀ st', (arrOf st').Perm a₀ → failedOf st' = none → SortedToK κ (arrOf st') a₀.size → Q () st') : wpS (model prog w) A E s sortRuns' Q st := by
  rw [sortRuns'_eq]
  refine wpS_bind (wpS_get ?_)
  dsimp only
  simp only [hB.size]
  generalize minRun' a₀.size a₀.size 0 = mr
  refine wpS_bind (wpS_mono (wpS_forRange (I := fun x c st' => ∃ lo, c = (none, lo) ∧ SB a₀ st' ∧ Pd κ st' lo ∧ lo ≤ a₀.size ∧ (x ≤ lo ∨ lo = a₀.size))
    (Q := fun c st' => c = (none, a₀.size) ∧ SB a₀ st' ∧ Pd κ st' a₀.size) ?step ?fin ?init) ?post)
  case init => exact ⟨0, rfl, hB, by unfold Pd; rw [hp]; rfl, Nat.zero_le _, .inl (Nat.le_refl _)⟩
  case fin =>
    rintro c st' ⟨lo, rfl, B, C, h1, h2⟩
    obtain rfl : lo = a₀.size := by omega
    exact ⟨rfl, B, C⟩
  case step =>
    rintro x c st' _ hx ⟨lo, rfl, B, C, h1, h2⟩
    dsimp only
    by_cases hge : lo ≥ a₀.size
    · rw [if_pos hge]
      obtain rfl : lo = a₀.size := by omega
      exact wpS_pure ⟨rfl, B, C⟩
    rw [if_neg hge]
    refine wpS_bind (wp_countL hO h0 (by omega) (by omega) B fun n st2 S2 n1 n2 g2 => ?_)
    have C2 : Pd κ st2 lo := by
      unfold Pd
      rw [S2.p]
      exact C.cong fun k k1 k2 => S2.o k (.inl k2)
    dsimp only
    by_cases hmr : n < mr
    · rw [if_pos hmr]
      refine wpS_bind (wpS_lift (wpAny_rule ⟨rfl, ?_⟩))
      refine wpS_bind (wp_binL hO h0 (by omega) (by omega) S2.b g2 fun st3 S3 g3 => ?_)
      rw [if_neg (by decide)]
      refine wpS_eq (m' := runR a₀.size lo (min (a₀.size - lo) mr)) ?_ (wp_runR hO h0 S3.b ?_ (by omega) (by omega) g3 fun st4 B4 C4 => ⟨_, rfl, B4, C4, by omega, .inl (by omega)⟩)
      · (unfold runR; refine bq rfl fun st1 => ?_; cases (pendingOf st1).back? with
          | none => rfl
          | some r => (obtain ⟨b, m, o⟩ := r; dsimp only; refine bq ?_ fun c => ?_; (first | rfl | (congr 1; funext x c; refine bq rfl fun st2 => ?_; cases (if (pendingOf st2).size > 1 then (pendingOf st2)[(pendingOf st2).size - 2]? else none) <;> rfl)); (obtain ⟨r, u⟩ := c; cases r <;> rfl)))
      unfold Pd
      rw [S3.p]
      exact C2.cong fun k k1 k2 => S3.o k (.inl k2)
    · rw [if_neg hmr]
      refine wpS_eq (m' := runR a₀.size lo n) ?_ (wp_runR hO h0 S2.b C2 n1 (by omega) g2 fun st4 B4 C4 => ⟨_, rfl, B4, C4, by omega, .inl (by omega)⟩)
      (unfold runR; refine bq rfl fun st1 => ?_; cases (pendingOf st1).back? with
        | none => rfl
        | some r => (obtain ⟨b, m, o⟩ := r; dsimp only; refine bq ?_ fun c => ?_; (first | rfl | (congr 1; funext x c; refine bq rfl fun st2 => ?_; cases (if (pendingOf st2).size > 1 then (pendingOf st2)[(pendingOf st2).size - 2]? else none) <;> rfl)); (obtain ⟨r, u⟩ := c; cases r <;> rfl)))
  case post =>
    rintro c st' ⟨rfl, B, C⟩
    dsimp only
    refine wpS_bind (wpS_mono (wpS_forRange (I := fun x c st2 => c = (none, ()) ∧ SB a₀ st2 ∧ Pd κ st2 a₀.size ∧ ((pendingOf st2).size + x ≤ a₀.size ∨ (pendingOf st2).size ≤ 1)) (Q := fun c st2 => c = (none, ()) ∧ SB a₀ st2 ∧ Pd κ st2 a₀.size ∧ (pendingOf st2).size ≤ 1) ?step2 ?fin2 ?init2) ?post2)
    case init2 =>
      have := C.le
      rw [Array.length_toList] at this
      exact ⟨rfl, B, C, .inl (by omega)⟩
    case fin2 =>
      rintro c st2 ⟨hc, B2, C2, h2⟩
      refine ⟨hc, B2, C2, ?_⟩
      rw [show max 0 a₀.size = a₀.size by omega] at h2
      omega
    case post2 =>
      rintro c st2 ⟨rfl, B2, C2, h2⟩
      refine wpS_pure (q st2 B2.perm B2.failed ?_)
      unfold Pd at C2
      have hl : (pendingOf st2).toList.length = (pendingOf st2).size := Array.length_toList
      match hpl : (pendingOf st2).toList, C2 with
      | [], C2 =>
        have C2 : 0 = a₀.size := C2
        intro i j hij hj
        omega
      | [r], C2 =>
        obtain ⟨c1, c2, c3, c4⟩ := C2
        have c4 : 0 + r.2.1 = a₀.size := c4
        intro i j hij hj
        have := c3 i j hij (by omega)
        rwa [Nat.zero_add, Nat.zero_add] at this
      | r1 :: r2 :: t, C2 =>
        rw [hpl, List.length_cons, List.length_cons] at hl
        omega
    case step2 =>
      rintro x c st2 _ hx ⟨rfl, B2, C2, h2⟩
      refine wpS_bind (wpS_get ?_)
      by_cases hs : (pendingOf st2).size ≤ 1
      · rw [if_pos hs]
        exact wpS_pure ⟨rfl, B2, C2, hs⟩
      · rw [if_neg hs]
        refine wpS_bind (wp_mergeC hO h0 B2 C2 (Nat.le_refl _) ?_ fun st3 B3 C3 hsz _ => ?_)
        · generalize Option.any _ _ = bb
          cases bb
          · show (pendingOf st2).size - 2 + 1 < _; omega
          · show (pendingOf st2).size - 2 - 1 + 1 < _; omega
        · rw [if_neg (by decide)]
          exact wpS_pure ⟨rfl, B3, C3, by omega⟩
end
end Zs
set_option Elab.async false
set_option linter.all false
set_option maxRecDepth 100000
set_option autoImplicit false
namespace Zs
open PySem PyProof.Rows
section
variable {prog : Program} {w : World} {A : Around} {E : Value → Shared → Prop} {s : Shared} {κ : PyProof.Rows.KeyKind}
/-- list.sort() of any number of things of one kind -/
theorem sort_any (hO : κ.OneLt) {a : Addr} {us : List Value} {n : Nat} {P : Fin → Shared → Prop} (ho : s.heap.get? a = some (seqObj "list" us.toArray n)) (h0 : KeysOf κ (pairsOf us))
    (hkk : ∀ x y r, us = x :: y :: r → keyKind' (x :: y :: r).toArray = pure oneType') (hbig : us.length ≤ 100000)
    (h : ∀ st' : SortSt, (arrOf st').Perm (pairsOf us) → SortedToK κ (arrOf st') (pairsOf us).size → P (.done (.ret .none)) { s with heap := sortedHeap s.heap a us ((arrOf st').map (·.2)) }) :
    wpAny (model prog w) A (Builtin.«list.sort» ⟨[.ref a], []⟩) P E s := by
  rw [list_sort_plain]
  have lt_a : a < s.heap.objs.size := Heap.lt_size ho
  have lsz : us.toArray.size = us.length := by simp
  refine wpAny_bind (listItems_at ho rfl (wpAny_bind (listUpdate_at ho rfl ?_)))
  obtain ⟨e1, o1⟩ : ∃ e1, (s.heap.update a (Obj.mapSeq fun _ => #[])).get? a = some (seqObj "list" #[] e1) := ⟨_, get?_update_seq ho (fun _ => #[])⟩
  refine wpAny_bind (seqEpoch_at o1 rfl (wpAny_bind (wpAny_newTuple (wpAny_bind (wpAny_newList (wpAny_holding ?_))))))
  have o6 : (((s.heap.update a (Obj.mapSeq fun _ => #[])).push (seqObj "tuple" us.toArray 0)).push (seqObj "list" #[] 0)).get? a = some (seqObj "list" #[] e1) := by
    rw [Heap.get?_push_ne _ _ _ (by rw [size_push', Heap.size_update]; exact Nat.ne_of_lt (Nat.lt_succ_of_lt lt_a)), Heap.get?_push_ne _ _ _ (by rw [Heap.size_update]; exact Nat.ne_of_lt lt_a), o1]
  show wpAny (model prog w) A _ P E { s with heap := ((s.heap.update a (Obj.mapSeq fun _ => #[])).push (seqObj "tuple" us.toArray 0)).push (seqObj "list" #[] 0) }
  dsimp only
  by_cases h2 : us.toArray.size < 2
  · rw [if_pos h2, if_pos h2]
    refine wpAny_bind (wpAny_pure ?_)
    rw [StateT.run_pure]
    refine wpAny_bind (wpAny_pure ?_)
    dsimp only
    refine wpAny_bind (seqEpoch_at o6 rfl (wpAny_bind (listUpdate_at o6 rfl ?_ (hsz2 := by rw [Array.size_map]; show (pairsOf us).size ≤ _; rw [pairsOf_size, sizeLine_eq]; omega))))
    simp only [bne_self_eq_false, Bool.false_eq_true, if_false]
    refine wpAny_pure (h (SortSt.mk' general' (us.toArray.zip us.toArray) #[] 7 none) (Array.Perm.refl _) fun i j hij hj => ?_)
    obtain rfl : i = j := by rw [pairsOf_size] at hj; omega
    exact KeyOrd.kle_refl _
  · rw [if_neg h2, if_neg h2]
    obtain ⟨x, y, r, rfl⟩ : ∃ x y r, us = x :: y :: r := by
      match us, lsz, h2 with
      | [], _, h2 => simp at h2
      | [_], _, h2 => simp at h2
      | x :: y :: r, _, _ => exact ⟨x, y, r, rfl⟩
    rw [hkk _ _ _ rfl]
    refine wpAny_bind (wpAny_pure ?_)
    refine wpAny_bind (wpAny_mono (wp_sortRuns (κ := κ) (a₀ := pairsOf (x :: y :: r)) (st := SortSt.mk' oneType' ((x :: y :: r).toArray.zip (x :: y :: r).toArray) #[] 7 none)
      (Q := fun _ st' => (arrOf st').Perm (pairsOf (x :: y :: r)) ∧ failedOf st' = none ∧ SortedToK κ (arrOf st') (pairsOf (x :: y :: r)).size) hO h0 ⟨Array.Perm.refl _, rfl, rfl⟩ rfl fun st' a1 a2 a3 => ⟨a1, a2, a3⟩) ?_ fun _ _ e => e)
    rintro ⟨⟨⟩, st'⟩ s' ⟨rfl, hp, hf, hs⟩
    dsimp only
    refine wpAny_bind (seqEpoch_at o6 rfl (wpAny_bind (listUpdate_at o6 rfl ?_ (hsz2 := by refine Nat.le_trans (Nat.le_of_eq ((Array.size_map ..).trans (hp.size_eq.trans (pairsOf_size _)))) ?_; rw [sizeLine_eq]; omega))))
    rw [hf]
    simp only [bne_self_eq_false, Bool.false_eq_true, if_false]
    exact wpAny_pure (h st' hp hs)
end
@[reducible] def intK : PyProof.Rows.KeyKind where
  α := Int
  blt a b := decide (a < b)
  irrefl a := by simp
  trans a b c h1 h2 := by simp only [decide_eq_true_eq] at *; omega
  negTrans a b c h := by simp only [decide_eq_true_eq] at *; omega
  total a b h1 h2 := by simp only [decide_eq_false_iff_not] at *; omega
  keyOf v := match v with | .int x _ => some x | _ => none
  dflt := 0
theorem intK_lt : intK.OneLt := by
  intro prog w A E s x y a b Q ha hb h
  cases x <;> simp only [intK, reduceCtorEq, Option.some.injEq] at ha
  cases y <;> simp only [intK, reduceCtorEq, Option.some.injEq] at hb
  cases ha; cases hb
  exact oneLt_int h
theorem intK_of {us : List Value} {ns : List Int} (h : IntsAre us ns) : KeysOf intK (pairsOf us) := fun p hp => by
  rw [pairsOf_toList] at hp
  obtain ⟨n, t, e⟩ := h.all _ (mem_zip_self hp).2
  exact ⟨n, by rw [e]⟩
theorem out_ints {us : List Value} {ns : List Int} (hI : IntsAre us ns) {xs : Array Keyed} (hp : xs.Perm (pairsOf us)) (hs : SortedToK intK xs (pairsOf us).size) :
    ∃ ms, IntsAre (xs.map (·.2)).toList ms ∧ ms.Perm ns ∧ ms.Pairwise (· ≤ ·) := by
  refine sorted_out hI hp fun i j hij hj => ?_
  have h1 := hs i j hij hj
  have hi' : i < xs.size := by rw [hp.size_eq]; omega
  have hj' : j < xs.size := by rw [hp.size_eq]; omega
  have hmem : ∀ p, p ∈ xs.toList → ∃ n t, p.1 = .int n t := fun p hp' => by
    have hl := Array.perm_iff_toList_perm.mp hp
    rw [pairsOf_toList] at hl
    exact hI.all _ (mem_zip_self (hl.mem_iff.mp hp')).2
  obtain ⟨n1, t1, e1⟩ := hmem xs[i] (by simp)
  obtain ⟨n2, t2, e2⟩ := hmem xs[j] (by simp)
  have k1 : KK intK xs i = n1 := by unfold KK; rw [getElem?_pos xs i hi']; simp [e1]
  have k2 : KK intK xs j = n2 := by unfold KK; rw [getElem?_pos xs j hj']; simp [e2]
  rw [k1, k2] at h1
  have h1' : decide (n2 < n1) = false := h1
  rw [K_eq hi', K_eq hj', e1, e2]
  show n1 ≤ n2
  simpa using h1'
end Zs
set_option Elab.async false
set_option linter.all false
set_option maxRecDepth 100000
set_option maxHeartbeats 3200000
namespace L2
open PySem PySem.Spec PyProof.Rows
def rDUpdate : V → List V → Hp → VK → Prop := fun x vs H Q => ∃ d d2 kvs kvs2, x = .ref d ∧ vs = [.ref d2] ∧ d ≠ d2 ∧ H d = some (.dK kvs) ∧ Rd H d2 (.dK kvs2) ∧ kvs.length + kvs2.length ≤ sizeLine ∧ Q .non (upd H d (.dK (mergeK kvs kvs2)))
end L2
set_option Elab.async false
set_option linter.all false
set_option maxRecDepth 100000
set_option maxHeartbeats 3200000
namespace L2
open PySem PySem.Spec PyProof.Rows
section
variable {prog : Program} {w : World} {A : Around} {E : Value → Shared → Prop} {s : Shared}
end
/-- sorted(d): the keys, texts, in order -/
def rSortedD : List V → Hp → VK → Prop := fun xs H Q => ∃ (d : Addr) (kvs : List (Key × V)) (zs : List Str), xs = [.ref d] ∧ Rd H d (.dK kvs) ∧ kvs.map (·.1) = zs.map Sum.inr ∧ kvs.length ≤ 100000 ∧ ∀ (ys : List Str) (p : Addr), ys.Perm zs → sortedS ys = true → H p = none → Q (.ref p) (upd H p (.lst (ys.map V.str)))
end L2
set_option Elab.async false
set_option linter.all false
set_option maxRecDepth 100000
namespace L2
open PySem PySem.Spec PyProof.Rows
end L2
set_option Elab.async false
set_option linter.all false
set_option maxRecDepth 100000
set_option maxHeartbeats 3200000
namespace L2
open PySem PySem.Spec PyProof.Rows
def strV : Value → Str
  | .str z _ => z
  | _ => ⟨#[]⟩
structure SX (prog : Program) (w : World) (h : Heap) (S : Addr) (led : Bool) (cs : List Str) : Prop where
  ex : ∃ es : List (Int × Value), SR prog w h S es led ∧ (∀ e ∈ es, ∃ c t, e.2 = .str c t) ∧ (es.map (fun e => strV e.2)).Nodup ∧ ∀ c, c ∈ es.map (fun e => strV e.2) ↔ c ∈ cs
section
variable {prog : Program} {w : World} {A : Around} {E : Value → Shared → Prop} {s : Shared}
theorem SX.at {h h' : Heap} {S : Addr} {led : Bool} {cs : List Str} (x : SX prog w h S led cs) (k : ∀ o, h.get? S = some o → h'.get? S = some o) : SX prog w h' S led cs := by
  obtain ⟨es, a, b⟩ := x.ex
  exact ⟨es, a.at k, b⟩
end
section
variable {prog : Program} {w : World} {A : Around} {E : Value → Shared → Prop} {s : Shared}
end
def tSortedSetT (K : PySem.W.Frag) (ta : TA) : TE := fun σ H Q => ta σ H fun vs H1 => ∃ (l0 : Addr) (cs : List Str), vs = [.ref l0] ∧ SqL K H1 l0 (cs.map V.str) ∧ cs.length < 3900 ∧
  ∀ (l : Addr) (ds : List Str), H1 l = none → sortedS ds = true → ds.Nodup → (∀ c, c ∈ ds ↔ c ∈ cs) → Q (.ref l) (upd H1 l (.lst (ds.map V.str)))
end L2
set_option Elab.async false
set_option linter.all false
set_option maxRecDepth 100000
set_option maxHeartbeats 1000000
namespace L2
open PySem
def Ri (xs : Array Nat) : Prop := ∀ i j, i < j → j < xs.size → xs.getD i 0 < xs.getD j 0
theorem below_go {xs : Array Nat} (hr : Ri xs) (j : Nat) : ∀ (fuel lo hi : Nat), lo ≤ hi → hi ≤ xs.size → hi - lo ≤ fuel →
    (∀ i, i < lo → xs.getD i 0 < j) → (∀ i, hi ≤ i → i < xs.size → j ≤ xs.getD i 0) →
    ∃ p, SetTable.below.go xs j fuel lo hi = p ∧ p ≤ xs.size ∧ (∀ i, i < p → xs.getD i 0 < j) ∧ (∀ i, p ≤ i → i < xs.size → j ≤ xs.getD i 0)
  | 0, lo, hi, h1, h2, h3, hl, hg => by
    have : lo = hi := by omega
    subst this
    exact ⟨lo, by unfold SetTable.below.go; rfl, h2, hl, hg⟩
  | fuel + 1, lo, hi, h1, h2, h3, hl, hg => by
    unfold SetTable.below.go
    by_cases hlt : lo < hi
    · rw [if_pos hlt]
      dsimp only
      have hm1 : lo ≤ (lo + hi) / 2 := by omega
      have hm2 : (lo + hi) / 2 < hi := by omega
      have hd : xs.getD ((lo + hi) / 2) j = xs.getD ((lo + hi) / 2) 0 := by
        rw [Array.getD_eq_getD_getElem?, Array.getD_eq_getD_getElem?, Array.getElem?_eq_getElem (by omega)]; rfl
      rw [hd]
      have mono : ∀ a b, a ≤ b → b < xs.size → xs.getD a 0 ≤ xs.getD b 0 := fun a b hab hb => by
        rcases Nat.lt_or_ge a b with q | q
        · exact Nat.le_of_lt (hr a b q hb)
        · have : a = b := by omega
          rw [this]; exact Nat.le_refl _
      by_cases hc : xs.getD ((lo + hi) / 2) 0 < j
      · rw [if_pos hc]
        refine below_go hr j fuel _ hi (by omega) h2 (by omega) (fun i hi' => ?_) hg
        exact Nat.lt_of_le_of_lt (mono i _ (by omega) (by omega)) hc
      · rw [if_neg hc]
        refine below_go hr j fuel lo _ hm1 (by omega) (by omega) hl fun i h4 h5 => ?_
        exact Nat.le_trans (Nat.le_of_not_lt hc) (mono _ i h4 h5)
    · rw [if_neg hlt]
      have : lo = hi := by omega
      subst this
      exact ⟨lo, rfl, h2, hl, hg⟩
theorem below_is {xs : Array Nat} (hr : Ri xs) (j : Nat) : SetTable.below xs j ≤ xs.size ∧ (∀ i, i < SetTable.below xs j → xs.getD i 0 < j) ∧ (∀ i, SetTable.below xs j ≤ i → i < xs.size → j ≤ xs.getD i 0) := by
  obtain ⟨p, e, h⟩ := below_go hr j xs.size 0 xs.size (Nat.zero_le _) (Nat.le_refl _) (by omega) (fun i h => absurd h (by omega)) (fun i h1 h2 => absurd h2 (by omega))
  have e' : SetTable.below xs j = p := e
  rw [e']; exact h
theorem below_zero {xs : Array Nat} (hr : Ri xs) : SetTable.below xs 0 = 0 := by
  have h := (below_is hr 0).2.1
  rcases Nat.eq_zero_or_pos (SetTable.below xs 0) with q | q
  · exact q
  · exact absurd (h 0 q) (by omega)
theorem below_next {xs : Array Nat} (hr : Ri xs) {i : Nat} (hi : i < xs.size) : SetTable.below xs (xs.getD i 0 + 1) = i + 1 := by
  obtain ⟨h0, h1, h2⟩ := below_is hr (xs.getD i 0 + 1)
  rcases Nat.lt_trichotomy (SetTable.below xs (xs.getD i 0 + 1)) (i + 1) with q | q | q
  · have := h2 i (by omega) hi; omega
  · exact q
  · have h3 := h1 (i + 1) q
    have := hr i (i + 1) (by omega) (by omega); omega
theorem insert_ri {xs : Array Nat} (hr : Ri xs) {j : Nat} (hn : xs[SetTable.below xs j]? ≠ some j) : Ri (SetTable.insertAt xs (SetTable.below xs j) j) := by
  obtain ⟨h0, h1, h2⟩ := below_is hr j
  generalize SetTable.below xs j = p at *
  have hg : ∀ i, (SetTable.insertAt xs p j).getD i 0 = if i < p then xs.getD i 0 else if i = p then j else xs.getD (i - 1) 0 := by
    intro i
    have e1 : SetTable.insertAt xs p j = (xs.toList.take p ++ j :: xs.toList.drop p).toArray := by
      apply Array.toList_inj.mp
      rw [SetTable.toList_insertAt]
    rw [Array.getD_eq_getD_getElem?, e1, List.getElem?_toArray, Array.getD_eq_getD_getElem?, Array.getD_eq_getD_getElem?]
    have hl : (xs.toList.take p).length = p := by rw [List.length_take, Array.length_toList]; omega
    by_cases c1 : i < p
    · rw [if_pos c1, List.getElem?_append_left (by omega), List.getElem?_take_of_lt c1, Array.getElem?_toList]
    · rw [if_neg c1, List.getElem?_append_right (by omega), hl]
      by_cases c2 : i = p
      · rw [if_pos c2, c2, Nat.sub_self]; rfl
      · rw [if_neg c2]
        obtain ⟨d, hd⟩ : ∃ d, i - p = d + 1 := ⟨i - p - 1, by omega⟩
        rw [hd, List.getElem?_cons_succ, List.getElem?_drop, Array.getElem?_toList, show p + d = i - 1 from by omega]
  have hs : (SetTable.insertAt xs p j).size = xs.size + 1 := by
    have := (SetTable.insertAt_perm xs p j).length_eq
    rw [Array.length_toList, Array.length_toList, Array.size_push] at this
    exact this
  have hpj : p < xs.size → j < xs.getD p 0 := by
    intro hp
    have := h2 p (Nat.le_refl _) hp
    rcases Nat.lt_or_ge j (xs.getD p 0) with q | q
    · exact q
    · refine absurd ?_ hn
      rw [Array.getElem?_eq_getElem hp]
      have e : xs.getD p 0 = xs[p] := by rw [Array.getD_eq_getD_getElem?, Array.getElem?_eq_getElem hp]; rfl
      rw [← e, show xs.getD p 0 = j from by omega]
  intro a b hab hb
  rw [hs] at hb
  rw [hg a, hg b]
  by_cases c1 : b < p
  · rw [if_pos (show a < p from by omega), if_pos c1]
    exact hr a b hab (by omega)
  · rw [if_neg c1]
    by_cases c2 : b = p
    · rw [if_pos c2, if_pos (show a < p from by omega)]
      exact h1 a (by omega)
    · rw [if_neg c2]
      by_cases c3 : a < p
      · rw [if_pos c3]
        exact hr a (b - 1) (by omega) (by omega)
      · rw [if_neg c3]
        by_cases c4 : a = p
        · rw [if_pos c4]
          have := hpj (by omega)
          rcases Nat.lt_or_ge p (b - 1) with q | q
          · exact Nat.lt_trans this (hr p (b - 1) q (by omega))
          · rw [show b - 1 = p from by omega]; exact this
        · rw [if_neg c4]
          exact hr (a - 1) (b - 1) (by omega) (by omega)
theorem slot_empty {t : SetTable} {j : Nat} (h : t.slot j ≠ .live (SetTable.below t.place j)) : t.place[SetTable.below t.place j]? ≠ some j := by
  intro e
  apply h
  unfold SetTable.slot
  dsimp only
  rw [if_pos (by rw [e]; simp)]
theorem probe_go {t : SetTable} {hashAt : Nat → Int} {h : Int} : ∀ (fuel : Nat) (p : SetTable.Probe) (j : Nat) (d : Option Nat), (∀ k, p.dummy = some k → t.slot k = .dummy) →
    SetTable.probe.go t hashAt h fuel p = some (.empty j d) → t.slot j = .empty ∧ ∀ k, d = some k → t.slot k = .dummy
  | 0, p, j, d, hp, e => by unfold SetTable.probe.go at e; cases e
  | fuel + 1, p, j, d, hp, e => by
    unfold SetTable.probe.go at e
    have adv : ∀ q : SetTable.Probe, (t.advance q).dummy = q.dummy := fun q => by
      unfold SetTable.advance; split <;> rfl
    split at e
    · rename_i hs
      cases e
      exact ⟨hs, hp⟩
    · rename_i hs
      refine probe_go fuel _ j d ?_ e
      intro k hk
      rw [adv] at hk
      cases hk
      exact hs
    · split at e
      · cases e
      · refine probe_go fuel _ j d ?_ e
        intro k hk
        rw [adv] at hk
        exact hp k hk
theorem free_not_live {t : SetTable} {h : Int} {j : Nat} {b : Bool} (e : t.freeSlot h = some (j, b)) : t.place[SetTable.below t.place j]? ≠ some j := by
  unfold SetTable.freeSlot at e
  split at e
  · rename_i j0 d hp
    cases e
    have hd0 : (t.probeStart h).dummy = none := rfl
    obtain ⟨h1, h2⟩ := probe_go _ _ _ _ (fun k hk => by rw [hd0] at hk; cases hk) hp
    refine slot_empty ?_
    cases d with
    | none => dsimp only [Option.getD]; rw [h1]; intro q; cases q
    | some k => dsimp only [Option.getD]; rw [h2 k rfl]; intro q; cases q
  · cases e
theorem range_ri (n : Nat) : Ri (Array.range n) := by
  intro i j hij hj
  rw [Array.size_range] at hj
  rw [Array.getD_eq_getD_getElem?, Array.getD_eq_getD_getElem?, Array.getElem?_eq_getElem (by rw [Array.size_range]; omega), Array.getElem?_eq_getElem (by rw [Array.size_range]; omega)]
  simp only [Array.getElem_range, Option.getD_some]
  exact hij
theorem lay_ri (t : SetTable) (es : Array (Int × Value)) (h : Int) (x : Value) (hr : Ri t.place) : Ri (layNew t es h x).2.1.place := by
  unfold layNew
  split
  · rename_i j b e
    show Ri (SetTable.orStandIn _ _).place
    unfold SetTable.orStandIn
    split
    · exact insert_ri hr (free_not_live e)
    · exact range_ri _
  · exact range_ri _
theorem pairwise_ri {l : List Nat} (h : l.Pairwise (· < ·)) : Ri l.toArray := by
  intro i j hij hj
  rw [List.size_toArray] at hj
  rw [Array.getD_eq_getD_getElem?, Array.getD_eq_getD_getElem?, List.getElem?_toArray, List.getElem?_toArray, List.getElem?_eq_getElem (by omega), List.getElem?_eq_getElem hj]
  exact List.pairwise_iff_getElem.mp h i j (by omega) hj hij
theorem relay_ri (t : SetTable) (es : Array (Int × Value)) (n : Nat) (hr : Ri t.place) : Ri (relayAll t es n).2.1.place := by
  unfold relayAll
  split
  · rename_i t' order e
    have e2 : Ri t'.place := by
      unfold SetTable.relaid SetTable.laid at e
      simp only [Option.bind_eq_bind] at e
      obtain ⟨ow, _, e⟩ := Option.bind_eq_some_iff.mp e
      cases e
      refine pairwise_ri ?_
      have key : ∀ l : List Nat, l.Pairwise (· < ·) → ((l.filterMap fun j => (ow.getD j none).map (j, ·)).map (·.1)).Pairwise (· < ·) ∧ ∀ x ∈ ((l.filterMap fun j => (ow.getD j none).map (j, ·)).map (·.1)), x ∈ l := by
        intro l
        induction l with
        | nil => intro _; exact ⟨.nil, fun x hx => by simp at hx⟩
        | cons a l ih =>
          intro hp
          obtain ⟨q1, q2⟩ := List.pairwise_cons.mp hp
          obtain ⟨i1, i2⟩ := ih q2
          rw [List.filterMap_cons]
          cases hm : (ow.getD a none).map (fun k => (a, k)) with
          | none => dsimp only; exact ⟨i1, fun x hx => List.mem_cons_of_mem _ (i2 x hx)⟩
          | some y =>
            dsimp only
            have : y.1 = a := by
              obtain ⟨k, _, hk⟩ := Option.map_eq_some_iff.mp hm
              rw [← hk]
            rw [List.map_cons, this]
            refine ⟨List.pairwise_cons.mpr ⟨fun x hx => q1 x (i2 x hx), i1⟩, fun x hx => ?_⟩
            rcases List.mem_cons.mp hx with q | q
            · rw [q]; exact List.mem_cons_self ..
            · exact List.mem_cons_of_mem _ (i2 x q)
      exact (key _ List.pairwise_lt_range).1
    dsimp only
    split
    · exact e2
    · exact range_ri _
  · exact range_ri _
theorem fits_place {t : SetTable} {n : Nat} (h : t.fits n = true) : t.place.size = n := by
  simp only [SetTable.fits, Bool.and_eq_true, beq_iff_eq] at h
  exact h.1
end L2
set_option Elab.async false
set_option linter.all false
set_option maxRecDepth 100000
set_option maxHeartbeats 3200000
namespace L2
open PySem PySem.Spec PyProof.Rows
section
variable {prog : Program} {w : World} {A : Around} {E : Value → Shared → Prop} {s : Shared}
theorem lay_plain (t : SetTable) (es : Array (Int × Value)) (h : Int) (x : Value) (hp : t.plain = false) : (layNew t es h x).2.1.plain = false := by
  unfold layNew
  split
  · show (SetTable.orStandIn _ _).plain = false
    unfold SetTable.orStandIn
    split
    · exact hp
    · rfl
  · rfl
theorem lay_either (t : SetTable) (es : Array (Int × Value)) (h : Int) (x : Value) (hp : t.plain = false ∨ Ri t.place) : (layNew t es h x).2.1.plain = false ∨ Ri (layNew t es h x).2.1.place :=
  hp.imp (lay_plain t es h x) (lay_ri t es h x)
theorem relay_either (t : SetTable) (es : Array (Int × Value)) (n : Nat) (hp : t.plain = false ∨ Ri t.place) : (relayAll t es n).2.1.plain = false ∨ Ri (relayAll t es n).2.1.place :=
  hp.imp (relay_plain t es n) (relay_ri t es n)
structure SRI (prog : Program) (w : World) (h : Heap) (a : Addr) (es : List (Int × Value)) (led : Bool) : Prop where
  ex : ∃ (o : Obj) (ea : Array (Int × Value)) (ep : Nat) (t : SetTable), h.get? a = some o ∧ o.ExactSet ∧ o.data = .set ea ep t ∧ ea.toList = es ∧ t.fits ea.size = true ∧ t.led = led ∧ (t.plain = false ∨ Ri t.place)
  el : ElemsOf (PySem.intKind prog w) es
  bd : es.length < 4000
theorem SRI.at {h h' : Heap} {a : Addr} {es : List (Int × Value)} {led : Bool} (x : SRI prog w h a es led) (k : ∀ o, h.get? a = some o → h'.get? a = some o) : SRI prog w h' a es led := by
  obtain ⟨o, ea, ep, t, h1, r⟩ := x.ex
  exact ⟨⟨o, ea, ep, t, k _ h1, r⟩, x.el, x.bd⟩
theorem add_tailI {g : Bool → Sem Unit} (hg : ∀ (b : Bool) (s₁ : Shared) (Q' : Unit → Shared → Prop), Q' () s₁ → wpAny (model prog w) A (g b) Q' E s₁)
    {a : Addr} {o : Obj} {es : Array (Int × Value)} {ep : Nat} {t : SetTable} (ho : s.heap.get? a = some o) (hex : o.ExactSet) (hd : o.data = .set es ep t)
    {es1 : Array (Int × Value)} {t2 : SetTable} (hel1 : ElemsOf (PySem.intKind prog w) es1.toList) (hb1 : es1.size < 4000) (hf2 : t2.fits es1.size = true) (hp2 : t2.plain = false ∨ Ri t2.place) {led : Bool} (hled : t2.led = led) {wasDummy : Bool} {R : Option Bool → Shared → Prop}
    (h : ∀ h' es', Heap.SameBut a s.heap h' → SRI prog w h' a es' led → es'.Perm es1.toList → R (some true) { s with heap := h' }) :
    wpAny (model prog w) A (do
        storeSet a es1 t2
        if (!wasDummy && t2.tooFull) = true then do
            g (relayAll t2 es1 (SetTable.grown es1.size)).2.2
            storeSet a (relayAll t2 es1 (SetTable.grown es1.size)).1 (relayAll t2 es1 (SetTable.grown es1.size)).2.1
            pure (some true)
          else pure (some true)) R E s := by
  have big : ∀ {n : Nat}, n < 4000 → n ≤ sizeLine := fun hn => Nat.le_trans (Nat.le_of_lt hn) (by decide)
  have got : ∀ {h : Heap} {o : Obj} {es : Array (Int × Value)} {ep : Nat} {t : SetTable} (es' : Array (Int × Value)) (t' : SetTable), h.get? a = some o → o.data = .set es ep t → (h.update a (Obj.putSet es' t')).get? a = some { o with data := .set es' (ep + 1) t' } := by
    intro h o es ep t es' t' ho hd
    have := Heap.get?_update_self (Obj.putSet es' t') ho (by rw [putSet_of es' t' hd]; rfl)
    rw [putSet_of es' t' hd] at this; exact this
  refine wpAny_bind (wpAny_storeSet_of ho hd ?_ (big hb1))
  have ho1 := got es1 t2 ho hd
  have hsb1 := Heap.SameBut.update s.heap a (Obj.putSet es1 t2)
  split
  · have hp := relayAll_perm t2 es1 (SetTable.grown es1.size)
    have hfr := relayAll_fits t2 es1 (SetTable.grown es1.size)
    have hld := relay_led t2 es1 (SetTable.grown es1.size)
    have hpl := relay_either t2 es1 (SetTable.grown es1.size) hp2
    generalize hRl : relayAll t2 es1 (SetTable.grown es1.size) = Rl at hp hfr hld hpl ⊢
    obtain ⟨es2, t3, gave2⟩ := Rl
    dsimp only at hp hfr hld hpl ⊢
    have hsz : es2.size = es1.size := by rw [← Array.length_toList, hp.length_eq, Array.length_toList]
    have hb2 : es2.size < 4000 := by rw [hsz]; exact hb1
    refine wpAny_bind (hg _ _ _ ?_)
    refine wpAny_bind (wpAny_storeSet_of ho1 rfl ?_ (big hb2))
    have ho2 := got es2 t3 ho1 rfl
    exact wpAny_pure (h _ es2.toList (hsb1.trans (Heap.SameBut.update _ a _)) ⟨⟨_, es2, _, t3, ho2, hex, rfl, rfl, hfr, hld.trans hled, hpl⟩, hel1.perm hp, by rw [Array.length_toList]; exact hb2⟩ hp)
  · exact wpAny_pure (h _ es1.toList hsb1 ⟨⟨_, es1, _, t2, ho1, hex, rfl, rfl, hf2, hled, hp2⟩, hel1, by rw [Array.length_toList]; exact hb1⟩ .rfl)
theorem add_int {a : Addr} {es : List (Int × Value)} {led : Bool} {x : Int} {t₀ : Tok} {Q : Bool → Shared → Prop} (S : SRI prog w s.heap a es led) (hb : es.length + 1 < 4000)
    (hF : (∃ e ∈ es, (PySem.intKind prog w).is x e.2 = true) → Q false s)
    (hA : (∀ e ∈ es, (PySem.intKind prog w).is x e.2 = false) → ∀ h' es', Heap.SameBut a s.heap h' → SRI prog w h' a es' led → es'.Perm (es ++ [((PySem.intKind prog w).hash x, .int x t₀)]) → Q true { s with heap := h' }) :
    wpAny (model prog w) A (setAddHashed a (.int x t₀) ((PySem.intKind prog w).hash x)) Q E s := by
  obtain ⟨⟨o, ea, ep, t, ho, hex, hd, he, hf, hl, hpl⟩, hel, _⟩ := S
  subst he
  have hkey : (PySem.intKind prog w).is x (.int x t₀) = true := intKind_is prog w x t₀
  have hsc : (Value.int x t₀).scannable = true := rfl
  have hbs : ea.size < scanBound := by
    rw [Array.length_toList] at hb
    exact Nat.lt_trans (by omega) (by decide : 4000 < scanBound)
  unfold setAddHashed setAddHashedIn
  refine wpAny_holding (wpAny_bind (wpAny_setState_of ho hd hf ?_))
  dsimp only
  rw [byScan_of hsc hbs hel]
  simp only [↓reduceIte]
  unfold setAddByScan
  refine wpAny_bind ?_
  refine wpAny_bind (wpAny_rule ?_)
  refine wpAny_bind (wpAny_setScan_of hkey ho hd hf hel ?_)
  cases hr : List.findIdx? (fun e => (PySem.intKind prog w).is x e.2) ea.toList with
  | some j =>
    dsimp only
    obtain ⟨hj, hpj, _⟩ := List.findIdx?_eq_some_iff_getElem.mp hr
    exact wpAny_pure (wpAny_pure (hF ⟨ea.toList[j], List.getElem_mem hj, hpj⟩))
  | none =>
    dsimp only
    have hno := List.findIdx?_eq_none_iff.mp hr
    have hgw : ∀ (b : Bool) {s₁ : Shared} {Q' : Unit → Shared → Prop}, Q' () s₁ → wpAny (model prog w) A (match b with | true => rule "set.scan.the-table-gave-way" | false => pure ()) Q' E s₁ :=
      fun b s₁ Q' hq => by cases b <;> first | exact wpAny_pure hq | exact wpAny_rule hq
    have hperm := layNew_perm t ea ((PySem.intKind prog w).hash x) (.int x t₀)
    have hfits := layNew_fits t ea ((PySem.intKind prog w).hash x) (.int x t₀)
    have hled := lay_led t ea ((PySem.intKind prog w).hash x) (.int x t₀)
    generalize hL : layNew t ea ((PySem.intKind prog w).hash x) (.int x t₀) = L at hperm hfits hled ⊢
    obtain ⟨es1, t1, wasDummy, gave⟩ := L
    dsimp only at hperm hfits hled ⊢
    rw [Array.toList_push] at hperm
    have hel1 : ElemsOf (PySem.intKind prog w) es1.toList := (hel.push hkey hsc).perm hperm
    have hb1' : es1.size < 4000 := by rw [← Array.length_toList, hperm.length_eq, List.length_append]; exact hb
    refine wpAny_bind (hgw _ ?_)
    have hend : ∀ h' es', Heap.SameBut a s.heap h' → SRI prog w h' a es' led → es'.Perm es1.toList → Q true { s with heap := h' } := fun h' es' h1 h2 h3 => hA (fun e he => by simpa using hno e he) h' es' h1 h2 (h3.trans hperm)
    have hpe := lay_either t ea ((PySem.intKind prog w).hash x) (.int x t₀) hpl
    rw [hL] at hpe
    dsimp only at hpe
    split
    · refine wpAny_bind ?_
      rw [hashByValue_scannable 8 hsc]
      refine wpAny_pure ?_
      simp only [plainKind, ↓reduceIte]
      refine add_tailI ?_ ho hex hd hel1 hb1' hfits hpe (hled.trans hl) ?_
      · intro b s₁ Q' hq; cases b <;> first | exact wpAny_pure hq | exact wpAny_rule hq
      · intro h' es' hsb hS' hp'; dsimp only; exact wpAny_pure (hend h' es' hsb hS' hp')
    · rename_i hnp
      refine wpAny_bind (wpAny_pure ?_)
      simp only [↓reduceIte]
      refine add_tailI ?_ ho hex hd hel1 hb1' hfits hpe (hled.trans hl) ?_
      · intro b s₁ Q' hq; cases b <;> first | exact wpAny_pure hq | exact wpAny_rule hq
      · intro h' es' hsb hS' hp'; dsimp only; exact wpAny_pure (hend h' es' hsb hS' hp')
end
end L2
set_option Elab.async false
set_option linter.all false
set_option maxRecDepth 100000
set_option maxHeartbeats 3200000
namespace L2
open PySem PySem.Spec PyProof.Rows
section
variable {prog : Program} {w : World} {A : Around} {E : Value → Shared → Prop} {s : Shared}
/-- walking by places, too -/
def HowI (w : World) (h : Heap) (S : Addr) (ea : Array (Int × Value)) (ep : Nat) (t : SetTable) (first : Value) (i : Nat) (ws : List Value) : Prop :=
  How w h S ea ep t first i ws ∨ (w.params.followText "set-order" = false ∧ t.led = true ∧ t.plain = true ∧ Ri t.place ∧ ∃ slot : Nat, first = rawInt (slot : Int) ∧ SetTable.below t.place slot = i ∧ ws = ea.toList.map (·.2))
theorem keepI {h h' : Heap} {S : Addr} {ea : Array (Int × Value)} {ep : Nat} {t : SetTable} {first : Value} {i : Nat} {ws : List Value} (x : HowI w h S ea ep t first i ws) (k : ∀ T o, first = .ref T → h.get? T = some o → h'.get? T = some o) : HowI w h' S ea ep t first i ws :=
  x.imp (fun y => y.keep k) id
theorem si_nextI {I S : Addr} {first : Value} {i n ep : Nat} {ea : Array (Int × Value)} {t : SetTable} {ws : List Value} {x : Value} {Q : Option Value → Shared → Prop}
    (hI : SI s.heap I S first i n ep) (hS : SO s.heap S ea ep t) (hn : ea.size = n) (hw : HowI w s.heap S ea ep t first i ws) (hne : S ≠ I) (hTI : ∀ T, first = .ref T → T ≠ I) (hx : ws[i]? = some x)
    (hQ : ∀ h' first', SI h' I S first' ((i : Int) + 1) n ep → Heap.SameBut I s.heap h' → HowI w h' S ea ep t first' (i + 1) ws → (∀ T, first' = .ref T → first = .ref T) → Q (some x) { s with heap := h' }) :
    wpAny (model prog w) A (pyNext (.ref I)) Q E s := by
  rcases hw with hw | ⟨hb, hl, hpt, hri, slot, rfl, hbl, hws⟩
  · exact si_next hI hS hn hw hne hTI hx fun h' f' a b c d => hQ h' f' a b (.inl c) d
  have hT : s.TypeIs (.ref I) "set_iterator" := ⟨_, hI, rfl⟩
  unfold pyNext
  refine wpAny_bind (wpAny_attempt (wpAny_callSpecial?_slot (name := Str.ofString "__next__") hT slot_si_next (wpAny_call_entry slot_si_next hT entry_si_next ?_ (args_si_next _))))
  unfold Builtin.«set_iterator.__next__»
  refine wpAny_bind (wpAny_of_eq (a := (Value.ref I, [])) rfl ?_)
  dsimp only
  refine wpAny_bind (wpAny_fieldsOf hI rfl ?_)
  dsimp only
  unfold setEntries
  refine wpAny_bind (wpAny_bind (hS.state (wpAny_pure ?_)))
  dsimp only
  refine wpAny_ite_split (fun hab => absurd hab (by rw [hn]; simp)) fun _ => ?_
  subst hws
  have hsz := fits_place hS.ft
  have hi : i < ea.size := by
    rw [List.getElem?_map, Array.getElem?_toList] at hx
    obtain ⟨e0, he, _⟩ := Option.map_eq_some_iff.mp hx
    rcases Nat.lt_or_ge i ea.size with q | q
    · exact q
    · rw [Array.getElem?_eq_none q] at he; cases he
  have hip : i < t.place.size := by rw [hsz]; exact hi
  have ex : ea[i].2 = x := by
    rw [List.getElem?_map, Array.getElem?_toList, Array.getElem?_eq_getElem hi] at hx
    simpa using hx
  show wpAny _ _ (setNext S ((slot : Int)).toNat ((i : Int)).toNat ((ep : Int)).toNat >>= _) _ _ _
  rw [Int.toNat_natCast, Int.toNat_natCast]
  refine wpAny_bind ?_
  unfold setNext
  refine wpAny_bind (hS.state ?_)
  dsimp only
  refine wpAny_bind (byText_ ?_)
  rw [hb]
  simp only [Bool.false_eq_true, if_false]
  refine wpAny_ite_split (fun hab => absurd (show (!t.plain && decide (ea.size > 1)) = true from hab) (by rw [hpt]; simp)) fun _ => ?_
  refine wpAny_bind (show wpAny _ _ (if (!t.led && !ea.isEmpty) = true then unsupported "set:maker-not-led" else pure PUnit.unit) _ _ _ from ?_)
  refine wpAny_ite_split (fun hab => absurd hab (by rw [hl]; simp)) fun _ => wpAny_pure ?_
  refine wpAny_pure ?_
  rw [hbl, Array.getElem?_eq_getElem hi, Array.getElem?_eq_getElem hip]
  have hpd : t.place[i] = t.place.getD i 0 := by rw [Array.getD_eq_getD_getElem?, Array.getElem?_eq_getElem hip]; rfl
  show wpAny _ _ (setField (.ref I) 0 (rawInt ((t.place[i] + 1 : Nat) : Int)) >>= _) _ _ _
  refine wpAny_bind (wpAny_setField_rec hI (by simp) fun h1 hI1 hs1 => ?_)
  replace hI1 : SI h1 I S (rawInt ((t.place[i] + 1 : Nat) : Int)) i n ep := hI1
  refine wpAny_bind (wpAny_setField_rec (s := { s with heap := h1 }) hI1 (by simp) fun h2 hI2 hs2 => ?_)
  replace hI2 : SI h2 I S (rawInt ((t.place[i] + 1 : Nat) : Int)) ((i : Int) + 1) n ep := hI2
  refine wpAny_pure ⟨_, rfl, wpAny_pure ?_⟩
  have ex' : (ea.toList.get ⟨i, hi⟩).snd = x := ex
  rw [ex']
  exact hQ h2 _ hI2 (hs1.trans hs2) (.inr ⟨hb, hl, hpt, hri, _, rfl, by rw [hpd]; exact below_next hri hip, rfl⟩) (fun T e => by cases e)
theorem si_endI {I S : Addr} {first : Value} {i n ep : Nat} {ea : Array (Int × Value)} {t : SetTable} {ws : List Value} {Q : Option Value → Shared → Prop} (hh : A.handled = none)
    (hI : SI s.heap I S first i n ep) (hS : SO s.heap S ea ep t) (hn : ea.size = n) (hw : HowI w s.heap S ea ep t first i ws) (hx : ws[i]? = none)
    (hQ : ∀ h', (∀ b o, b ≠ I → s.heap.get? b = some o → h'.get? b = some o) → Q none { s with heap := h' }) :
    wpAny (model prog w) A (pyNext (.ref I)) Q E s := by
  rcases hw with hw | ⟨hb, hl, hpt, hri, slot, rfl, hbl, hws⟩
  · exact si_end hh hI hS hn hw hx hQ
  have hT : s.TypeIs (.ref I) "set_iterator" := ⟨_, hI, rfl⟩
  unfold pyNext
  refine wpAny_bind (wpAny_attempt (wpAny_callSpecial?_slot (name := Str.ofString "__next__") hT slot_si_next (wpAny_call_entry slot_si_next hT entry_si_next ?_ (args_si_next _))))
  unfold Builtin.«set_iterator.__next__»
  refine wpAny_bind (wpAny_of_eq (a := (Value.ref I, [])) rfl ?_)
  dsimp only
  refine wpAny_bind (wpAny_fieldsOf hI rfl ?_)
  dsimp only
  unfold setEntries
  refine wpAny_bind (wpAny_bind (hS.state (wpAny_pure ?_)))
  dsimp only
  refine wpAny_ite_split (fun hab => absurd hab (by rw [hn]; simp)) fun _ => ?_
  have fin : ∀ (first' : Value) (h0 : Heap), SI h0 I S first' i n ep → (∀ b o, b ≠ I → s.heap.get? b = some o → h0.get? b = some o) →
      wpAny (model prog w) A.in1 (setField (.ref I) 2 .none >>= fun _ => newExc (.type "StopIteration") [] >>= fun e => (raiseNew e : Sem Fin))
        (fun fin s' => ∃ v, fin = Fin.done (.ret v) ∧ wpAny (model prog w) A (pure (some v)) Q E s') (fun e s' => wpAny (model prog w) A (do
          if (← isInstance e (.type "StopIteration")) = true then pure Option.none else throw e) Q E s') { s with heap := h0 } := by
    intro first' h0 hI0 hk
    refine wpAny_bind (wpAny_setField_rec (s := { s with heap := h0 }) hI0 (by simp) fun h1 hI1 hs1 => ?_)
    refine stop_now (s := { s with heap := h1 }) hh fun h' e hk' hex => ?_
    obtain ⟨o, ho, hc⟩ := hex
    refine wpAny_bind (wpAny_isInstance (T := "StopIteration") (b := true) ⟨o, ho, hc⟩ isSubtype_stop ?_)
    exact wpAny_pure (hQ _ fun b o hb e' => hk' b o (hs1.extBut b o hb (hk b o hb e')))
  subst hws
  have hi : ea.size ≤ i := by
    rw [List.getElem?_map, Array.getElem?_toList] at hx
    have := Option.map_eq_none_iff.mp hx
    rcases Nat.lt_or_ge i ea.size with q | q
    · rw [Array.getElem?_eq_getElem q] at this; cases this
    · exact q
  show wpAny _ _ (setNext S ((slot : Int)).toNat ((i : Int)).toNat ((ep : Int)).toNat >>= _) _ _ _
  rw [Int.toNat_natCast, Int.toNat_natCast]
  refine wpAny_bind ?_
  unfold setNext
  refine wpAny_bind (hS.state ?_)
  dsimp only
  refine wpAny_bind (byText_ ?_)
  rw [hb]
  simp only [Bool.false_eq_true, if_false]
  refine wpAny_ite_split (fun hab => absurd (show (!t.plain && decide (ea.size > 1)) = true from hab) (by rw [hpt]; simp)) fun _ => ?_
  refine wpAny_bind (show wpAny _ _ (if (!t.led && !ea.isEmpty) = true then unsupported "set:maker-not-led" else pure PUnit.unit) _ _ _ from ?_)
  refine wpAny_ite_split (fun hab => absurd hab (by rw [hl]; simp)) fun _ => wpAny_pure ?_
  refine wpAny_pure ?_
  rw [hbl, Array.getElem?_eq_none hi]
  exact fin _ s.heap hI fun b o hb e' => e'
/-- the iterator I walks the set at S and tells ws -/
def SStI (w : World) (I S : Addr) (fp : List Addr) (ea : Array (Int × Value)) (ep : Nat) (t : SetTable) (ws : List Value) (i : Nat) (h : Heap) : Prop :=
  ∃ first, SI h I S first i ea.size ep ∧ SO h S ea ep t ∧ HowI w h S ea ep t first i ws ∧ ∀ T, first = .ref T → T ≠ I ∧ T ∈ fp
theorem si_walksI (hh : A.handled = none) {I S : Addr} {fp : List Addr} {ea : Array (Int × Value)} {ep : Nat} {t : SetTable} {ws : List Value} (hne : S ≠ I) (hIf : I ∈ fp) (hSf : S ∈ fp) :
    Walks prog w A I fp [I] ws.length (fun i v => ws[i]? = some v) (SStI w I S fp ea ep t ws) where
  sub := fun b hb => by
    have : b = I := by simpa using hb
    rw [this]; exact hIf
  frame := fun i h h' x hk => by
    obtain ⟨first, a, b, c, d⟩ := x
    exact ⟨first, hk I hIf _ a, b.at fun o q => hk S hSf o q, keepI c fun T o e q => hk T (d T e).2 o q, d⟩
  item := fun i s Q E hi x hQ => by
    obtain ⟨first, a, b, c, d⟩ := x
    have hx : ws[i]? = some ws[i] := List.getElem?_eq_getElem hi
    refine si_nextI a b rfl c hne (fun T e => (d T e).1) hx fun h' first' a' sb c' d' => ?_
    refine hQ _ h' s.toks hx ⟨first', a', b.at fun o q => (sb.2 S hne).trans q, c', fun T e => ?_⟩ fun b' o hb' q => (sb.2 b' (by simpa using hb')).trans q
    exact d T (d' T e)
  done := fun s Q E x hQ => by
    obtain ⟨first, a, b, c, d⟩ := x
    exact si_endI hh a b rfl c (List.getElem?_eq_none (Nat.le_refl _)) fun h' hk => hQ h' s.toks fun b o hb q => hk b o (by simpa using hb) q
  self := fun i s Q E x h => by
    obtain ⟨first, a, b, c, d⟩ := x
    have hT : s.TypeIs (.ref I) "set_iterator" := ⟨_, a, rfl⟩
    refine wpAny_pyIter_slot hT slot_si_iter (wpAny_call_entry slot_si_iter hT entry_si_iter ?_ (args_si_iter _))
    show wpAny _ _ (ret (.ref I)) _ _ s
    exact wpAny_pure ⟨_, rfl, _, _, hT, slot_si_next.lookup, h⟩
theorem set_iterI {S : Addr} {es : List (Int × Value)} {Q : Value → Shared → Prop} (hS : SRI prog w s.heap S es (!w.params.followText "set-order"))
    (h : ∀ (I : Addr) (fp : List Addr) (h' : Heap) (d : Drawn) (ea : Array (Int × Value)) (ep : Nat) (t : SetTable) (ws : List Value), s.heap.objs.size ≤ I → (∀ b o, s.heap.get? b = some o → h'.get? b = some o) → ws.Perm (es.map (·.2)) → SStI w I S fp ea ep t ws 0 h' →
      I ∈ fp → S ∈ fp → (∀ b ∈ fp, b = S ∨ s.heap.objs.size ≤ b) → I < h'.objs.size → Q (.ref I) { s with heap := h', drawn := d }) :
    wpAny (model prog w) A (pyIter (.ref S)) Q E s := by
  obtain ⟨⟨o, ea, ep, t, ho, hex, hd, he, hf, hl, hpl⟩, hel, hb⟩ := hS
  subst he
  have hT : s.TypeIs (.ref S) "set" := ⟨o, ho, hex.1⟩
  have hSO : SO s.heap S ea ep t := ⟨⟨o, ho, hd⟩, hf⟩
  have hSlt : S < s.heap.objs.size := Heap.lt_size ho
  refine wpAny_pyIter_slot hT PySem.F.slot_set_iter (wpAny_call_entry PySem.F.slot_set_iter hT entry_set_it ?_ (PySem.F.args_set_iter_1 _))
  unfold Builtin.«frozenset.__iter__»
  refine wpAny_bind (wpAny_of_eq (a := S) rfl ?_)
  unfold Builtin.Frozenset.sizeOf setEntries
  refine wpAny_bind (wpAny_bind (wpAny_bind (hSO.state (wpAny_pure (wpAny_pure ?_)))))
  unfold setDrawn
  refine wpAny_bind (wpAny_bind (hSO.state ?_))
  dsimp only
  refine wpAny_bind (byText_ (wpAny_pure ?_))
  -- behind the first field
  have fin : ∀ (first : Value) (h0 : Heap) (d : Drawn) (ws : List Value) (fp : List Addr), (∀ b o, s.heap.get? b = some o → h0.get? b = some o) → s.heap.objs.size ≤ h0.objs.size → HowI w h0 S ea ep t first 0 ws → ws.Perm (ea.toList.map (·.2)) →
      (∀ T, first = .ref T → T < h0.objs.size ∧ T ∈ fp) → (∀ b ∈ fp, s.heap.objs.size ≤ b) →
      wpAny (model prog w) A.in1 (setEpoch S >>= fun e => newFields "set_iterator" [first, rawInt 0, .ref S, rawInt ea.size, rawInt e] >>= fun v => ret v)
        (fun fin s' => ∃ v, fin = Fin.done (.ret v) ∧ ∃ T' r, s'.TypeIs v T' ∧ typeLookup (Value.type T') (Str.ofString "__next__") = pure (some r) ∧ Q v s') E { s with heap := h0, drawn := d } := by
    intro first h0 d ws fp hk hz hw hp hTt hfp
    unfold setEpoch
    refine wpAny_bind (wpAny_bind (SO.state (s := { s with heap := h0, drawn := d }) (hSO.at fun o q => hk S o q) (wpAny_pure ?_)))
    dsimp only
    refine wpAny_bind (wpAny_newObj_type (wpAny_pure ⟨_, rfl, "set_iterator", _, ⟨_, Heap.get?_push_size _ rfl, rfl⟩, slot_si_next.lookup, ?_⟩))
    refine h h0.objs.size (h0.objs.size :: S :: fp) _ d ea ep t ws hz (fun b o q => Heap.get?_push_of_some _ (hk b o q)) hp
      ⟨first, Heap.get?_push_size _ rfl, (hSO.at fun o q => hk S o q).at fun o q => Heap.get?_push_of_some _ q, keepI hw fun T o e q => Heap.get?_push_of_some _ q, fun T e => ⟨Nat.ne_of_lt (hTt T e).1, by simp [(hTt T e).2]⟩⟩ (by simp) (by simp) (fun b hb => ?_) (by rw [Heap.size_push]; exact Nat.lt_succ_self _)
    rcases List.mem_cons.mp hb with e | hb
    · exact .inr (by rw [e]; exact hz)
    · rcases List.mem_cons.mp hb with e | hb
      · exact .inl e
      · exact .inr (hfp b hb)
  cases hbt : w.params.followText "set-order" with
  | true =>
    simp only [Bool.not_true, Bool.false_and, Bool.false_eq_true, if_false]
    refine wpAny_bind (wpAny_pure ?_)
    have hp := (pick_perm (w.params.setOrder S ep) ea).map (·.2)
    exact fin (rawInt 0) s.heap s.drawn _ [] (fun b o q => q) (Nat.le_refl _) (.inl (.text 0 hbt)) hp (fun T e => by cases e) (fun b hb => by simp at hb)
  | false =>
    by_cases h2 : ea.size > 1
    · by_cases hpf : t.plain = false
      case neg =>
        have hri : Ri t.place := hpl.resolve_left hpf
        have hpt : t.plain = true := by simpa using hpf
        have hlt : t.led = true := by rw [hl, hbt]; rfl
        refine wpAny_ite_split (fun hab => absurd (show (!false && (!t.plain && decide (ea.size > 1))) = true from hab) (by rw [hpt]; simp)) fun _ => ?_
        refine wpAny_bind (wpAny_pure ?_)
        exact fin (rawInt 0) s.heap s.drawn _ [] (fun b o q => q) (Nat.le_refl _) (.inr ⟨hbt, hlt, hpt, hri, 0, rfl, below_zero hri, rfl⟩) .rfl (fun T e => by cases e) (fun b hb => by simp at hb)
      refine wpAny_ite_split (fun _ => ?_) fun hab => absurd (show (!false && (!t.plain && decide (ea.size > 1))) = true by rw [hpf, decide_eq_true h2]; rfl) hab
      refine wpAny_bind (draw_perm ea.size (List.range ea.size) _ _ List.length_range.symm fun ord d hp => ?_)
      refine wpAny_bind (wpAny_newTuple ?_ (hsz := by rw [List.length_map, hp.length_eq, List.length_range, ← Array.length_toList]; exact small80 (by omega)))
      have hsz : (s.heap.push { cls := .type "tuple", data := .seq (ord.map fun (j : Nat) => rawInt j).toArray }).objs.size = s.heap.objs.size + 1 := Heap.size_push ..
      have hmem : ∀ j ∈ ord, j < ea.size := fun j hj => List.mem_range.mp (hp.mem_iff.mp hj)
      refine fin (.ref s.heap.objs.size) (s.heap.push { cls := .type "tuple", data := .seq (ord.map fun (j : Nat) => rawInt j).toArray }) d (ord.filterMap (vAt ea)) [s.heap.objs.size] (fun b o q => Heap.get?_push_of_some _ q) (by rw [hsz]; exact Nat.le_succ _)
        (.inl (.drawn _ ord 0 (Heap.get?_push_size _ rfl) hmem)) ?_ (fun T e => ?_) (fun b hb => ?_)
      · refine (hp.filterMap _).trans ?_
        have key : ∀ l : List (Int × Value), (List.range l.length).filterMap (fun j => (l[j]?).map Prod.snd) = l.map (·.2) := by
          intro l
          refine List.ext_getElem? fun i => ?_
          have e1 : ∀ j ∈ List.range l.length, (fun j => (l[j]?).map Prod.snd) j = some ((l.map (·.2)).getD j .none) := by
            intro j hj
            have := List.mem_range.mp hj
            show (l[j]?).map Prod.snd = _
            rw [List.getD_eq_getElem?_getD, List.getElem?_map, List.getElem?_eq_getElem this]; rfl
          rw [fm_congr e1, List.filterMap_eq_map']
          rw [List.getElem?_map, List.getElem?_map]
          by_cases hi : i < l.length
          · rw [List.getElem?_range hi]
            simp [List.getElem?_eq_getElem hi]
          · rw [List.getElem?_eq_none (by simpa using hi), List.getElem?_eq_none (by omega)]; rfl
        have k2 := key ea.toList
        rw [Array.length_toList] at k2
        rw [← k2]
        refine List.Perm.of_eq (fm_congr fun j _ => ?_)
        show (ea[j]?).map Prod.snd = (ea.toList[j]?).map Prod.snd
        rw [Array.getElem?_toList]
      · cases e
        exact ⟨by rw [hsz]; exact Nat.lt_succ_self _, by simp⟩
      · rw [List.mem_singleton.mp hb]; exact Nat.le_refl _
    · refine wpAny_ite_split (fun hab => absurd (show (!false && (!t.plain && decide (ea.size > 1))) = true from hab) (by rw [decide_eq_false h2]; simp)) fun _ => ?_
      refine wpAny_bind (wpAny_pure ?_)
      have hlt : t.led = true := by rw [hl, hbt]; rfl
      obtain ⟨l, hl2⟩ : ∃ l, l = ea.toList := ⟨_, rfl⟩
      match l, hl2 with
      | [], hl2 =>
        have e0 : ea.size = 0 := by rw [← Array.length_toList, ← hl2]; rfl
        refine fin (rawInt 0) s.heap s.drawn [] [] (fun b o q => q) (Nat.le_refl _) (.inl (.none hbt e0)) (by rw [← hl2]; exact .rfl) (fun T e => by cases e) (fun b hb => by simp at hb)
      | [x], hl2 =>
        have e0 : ea = #[x] := Array.toList_inj.mp hl2.symm
        refine fin (rawInt 0) s.heap s.drawn [x.2] [] (fun b o q => q) (Nat.le_refl _) (.inl (.one0 x hbt e0 hlt)) (by rw [← hl2]; exact .rfl) (fun T e => by cases e) (fun b hb => by simp at hb)
      | x :: y :: r, hl2 =>
        have : ea.size > 1 := by rw [← Array.length_toList, ← hl2]; simp
        exact absurd this h2
theorem set_extendI {S D : Addr} {es : List (Int × Value)} {R : Result → Shared → Prop} (hh : A.handled = none) (hS : SRI prog w s.heap S es (!w.params.followText "set-order")) (hSD : D ≠ S) (res : Value) (c₀ : Nat)
    (hD : s.heap.get? D = some { cls := .type "list", data := .seq #[] c₀ })
    (hR : ∀ h' d tk acc c, (∀ b o, b ≠ D → s.heap.get? b = some o → h'.get? b = some o) → h'.get? D = some { cls := .type "list", dict := none, data := .seq acc c, slots := #[] } → acc.toList.Perm (es.map (·.2)) → R (.ok (.ret res)) { s with heap := h', drawn := d, toks := tk }) :
    wpAny (model prog w) A.in1 (Builtin.List.listExtendWith (.ref D) (.ref S) res)
      (fun fin s' => match fin with | .done f => R (.ok f) s' | .again c' => c'.quiet = true ∧ codeAny (model prog w) A c' R s') (fun e s' => R (.error e) s') s := by
  have hDlt : D < s.heap.objs.size := Heap.lt_size hD
  have hT : s.TypeIs (.ref S) "set" := by
    obtain ⟨o, ea, ep, t, ho, hex, _⟩ := hS.ex
    exact ⟨o, ho, hex.1⟩
  unfold Builtin.List.listExtendWith
  refine wpAny_bind (wpAny_typeOf (T := "set") hT ?_)
  have h1 : Builtin.List.listSameRef (.ref D) (.ref S) = false := by simp [Builtin.List.listSameRef, hSD]
  have h2 : (Value.type "set" == Value.type "list") = false := by decide
  have h3 : (Value.type "set" == Value.type "tuple") = false := by decide
  simp only [h1, h2, h3, Bool.or_false, Bool.false_eq_true, if_false]
  refine wpAny_bind (set_iterI hS fun I fp h' d ea ep t ws hI hk hp hst hIf hSf hfp hIlt => ?_)
  have hTI : Shared.TypeIs { s with heap := h', drawn := d } (.ref S) "set" := by
    obtain ⟨o, ho, hc⟩ := hT
    exact ⟨o, hk S o ho, hc⟩
  have hn : ws.length ≤ sizeLine := by
    rw [hp.length_eq, List.length_map]
    exact small80 (Nat.le_of_lt (Nat.lt_trans hS.bd (by decide)))
  have hDf : D ∉ fp := fun hm => by
    rcases hfp D hm with e | e
    · exact hSD e
    · exact absurd hDlt (Nat.not_lt_of_le e)
  have hSI : S ≠ I := by
    obtain ⟨o, ea, ep, t, ho, _⟩ := hS.ex
    exact Nat.ne_of_lt (Nat.lt_of_lt_of_le (Heap.lt_size ho) hI)
  have key : ∀ (h1 : Heap) (c₁ tk : Nat), (∀ b o, b ≠ D → h'.get? b = some o → h1.get? b = some o) → h1.get? D = some { cls := .type "list", data := .seq #[] c₁ } →
      codeAny (model prog w) A (.builtin "list.extend.loop" ⟨[.ref D, .ref I, res], []⟩) R { s with heap := h1, drawn := d, toks := tk } := by
    intro h1 c₁ tk hk1 hD1
    have W := si_walksI (prog := prog) (w := w) (A := A.in1) (ea := ea) (ep := ep) (t := t) (ws := ws) hh hSI hIf hSf
    refine codeAny_extend_loopS W.toS hn D hDf res ws.length 0 _ #[] c₁ rfl (Nat.zero_le _) (W.frame 0 h' h1 hst fun b hb o q => hk1 b o (fun e => hDf (e ▸ hb)) q) hD1 (ItemsOf.nil _) fun s' acc' c' hm hS' hacc => ?_
    rw [Moved.eq_with hm]
    refine hR s'.heap d s'.toks acc' c' (fun b o hb e => hm.heap b o (fun hmem => ?_) (hk1 b o hb (hk b o e))) hS' ?_
    · rcases List.mem_cons.mp hmem with e' | hmem
      · exact hb e'
      · rw [List.mem_singleton.mp hmem] at e
        exact absurd (Heap.lt_size e) (Nat.not_lt_of_le hI)
    · refine List.Perm.trans (List.Perm.of_eq ?_) hp
      refine List.ext_getElem? fun i => ?_
      rw [Array.getElem?_toList]
      by_cases hi : i < ws.length
      · have hia : i < acc'.size := by rw [hacc.1]; exact hi
        rw [Array.getElem?_eq_getElem hia]
        exact (hacc.2 i _ (Array.getElem?_eq_getElem hia)).symm
      · rw [List.getElem?_eq_none (by omega), Array.getElem?_eq_none (by rw [hacc.1]; omega)]
  have hD₁ := hk D _ hD
  refine wpAny_bind (wpAny_holding (set_hint hTI ?_))
  refine wpAny_ite_split (fun _ => ?_) (fun _ => wpAny_pure ⟨plainId_quiet PySem.F.plain_extend_loop _, key _ c₀ _ (fun b o _ e => e) hD₁⟩)
  refine wpAny_bind (wpAny_rule ?_)
  refine wpAny_bind ?_
  show wpAny _ _ (updateSeq D (·.push .none) >>= fun _ => updateSeq D (·.pop)) _ _ _
  refine wpAny_bind (wpAny_updateSeq hD₁ rfl ?_)
  have hD₂ := Heap.get?_update_self (Obj.mapSeq (·.push Value.none)) hD₁ rfl
  refine wpAny_updateSeq (hz := by seq_fits) hD₂ rfl ?_
  have hD₃ := Heap.get?_update_self (Obj.mapSeq (·.pop)) hD₂ rfl
  refine wpAny_pure ⟨plainId_quiet PySem.F.plain_extend_loop _, key _ _ _ (fun b o hb e => ?_) hD₃⟩
  exact (Heap.get?_update_other _ _ (Ne.symm hb)).trans ((Heap.get?_update_other _ _ (Ne.symm hb)).trans e)
theorem set_collectI {S : Addr} {es : List (Int × Value)} {R : List Value → Shared → Prop} (hh : A.handled = none) (hS : SRI prog w s.heap S es (!w.params.followText "set-order"))
    (h : ∀ (h' : Heap) (d : Drawn) (tk : Nat) (acc : Array Value), s.heap.objs.size < h'.objs.size → (∀ b o, s.heap.get? b = some o → h'.get? b = some o) → acc.toList.Perm (es.map (·.2)) → R acc.toList { s with heap := h', drawn := d, toks := tk }) :
    wpAny (model prog w) A (collect (.ref S)) R E s := by
  have hlt : S < s.heap.objs.size := by
    obtain ⟨o, ea, ep, t, ho, _⟩ := hS.ex
    exact Heap.lt_size ho
  unfold collect
  refine wpAny_bind (wpAny_runValue (codeAny_builtin PyProof.Rows.entry_proto_collect' ?_))
  rw [Around.under_plainId PySem.F.plain_proto_collect _]
  show wpAny _ A.in1 (newList [] >>= fun l => again (.builtin "list.__iadd__" ⟨[l, .ref S], []⟩)) _ _ s
  refine wpAny_bind (wpAny_newObj_type ?_)
  refine wpAny_pure ⟨plainId_quiet PySem.F.plain_list_iadd _, codeAny_builtin PyProof.Rows.entry_list_iadd' ?_⟩
  rw [Around.under_plainId PySem.F.plain_list_iadd _]
  have hS₁ : (s.heap.push { cls := .type "list", data := .seq ([] : List Value).toArray }).get? s.heap.objs.size = some { cls := .type "list", data := .seq #[] } := Heap.get?_push_size _ rfl
  show wpAny _ A.in1 (Builtin.List.listExtendWith (.ref s.heap.objs.size) (.ref S) (.ref s.heap.objs.size)) _ _ _
  have key := set_extendI (A := A) (s := { s with heap := s.heap.push { cls := .type "list", data := .seq ([] : List Value).toArray } }) (D := s.heap.objs.size)
    (R := fun (q : Result) (s' : Shared) => ∃ (h' : Heap) (d : Drawn) (tk : Nat) (acc' : Array Value) (c' : Nat), q = .ok (.ret (.ref s.heap.objs.size)) ∧ s' = { s with heap := h', drawn := d, toks := tk } ∧
      (∀ b o, s.heap.get? b = some o → h'.get? b = some o) ∧ h'.get? s.heap.objs.size = some { cls := .type "list", dict := none, data := .seq acc' c', slots := #[] } ∧ acc'.toList.Perm (es.map (·.2)))
    hh (hS.at fun o q => Heap.get?_push_of_some _ q) (Nat.ne_of_gt hlt) (.ref s.heap.objs.size) 0 hS₁
    (fun h' d tk acc' c' hk hS' hacc => ⟨h', d, tk, acc', c', rfl, rfl, fun b o e => hk b o (Nat.ne_of_lt (Heap.lt_size e)) (Heap.get?_push_of_some _ e), hS', hacc⟩)
  refine wpAny_mono key (fun fin s' x => ?_) fun e s' x => ?_
  · cases fin with
    | done f =>
      obtain ⟨h', d, tk, acc', c', e, rfl, hk, hS', hacc⟩ := x
      cases e
      show wpAny _ A (load s.heap.objs.size >>= _) _ _ _
      refine wpAny_bind (wpAny_load hS' ?_)
      exact wpAny_pure (h h' d tk acc' (Heap.lt_size hS') hk hacc)
    | again c₁ =>
      refine ⟨x.1, codeAny_mono x.2 fun q s₂ y => ?_⟩
      obtain ⟨h', d, tk, acc', c', rfl, rfl, hk, hS', hacc⟩ := y
      show wpAny _ A (load s.heap.objs.size >>= _) _ _ _
      refine wpAny_bind (wpAny_load hS' ?_)
      exact wpAny_pure (h h' d tk acc' (Heap.lt_size hS') hk hacc)
  · obtain ⟨_, _, _, _, _, e', _⟩ := x
    cases e'
end
end L2
set_option Elab.async false
set_option linter.all false
set_option maxRecDepth 100000
set_option maxHeartbeats 3200000
namespace L2
open PySem PySem.Spec PyProof.Rows
def intV : Value → Int
  | .int z _ => z
  | _ => 0
structure SXI (prog : Program) (w : World) (h : Heap) (S : Addr) (led : Bool) (cs : List Int) : Prop where
  ex : ∃ es : List (Int × Value), SRI prog w h S es led ∧ (∀ e ∈ es, ∃ c t, e.2 = .int c t) ∧ (es.map (fun e => intV e.2)).Nodup ∧ ∀ c, c ∈ es.map (fun e => intV e.2) ↔ c ∈ cs
theorem nodup_lenI : ∀ {l m : List Int}, l.Nodup → (∀ d ∈ l, d ∈ m) → l.length ≤ m.length
  | [], _, _, _ => Nat.zero_le _
  | a :: l, m, nd, h => by
    have n := List.nodup_cons.mp nd
    have ha := h a (List.mem_cons_self ..)
    have := nodup_lenI (m := m.erase a) n.2 fun d hd => (List.mem_erase_of_ne (show d ≠ a from fun e => n.1 (by rw [← e]; exact hd))).mpr (h d (List.mem_cons_of_mem _ hd))
    rw [List.length_erase_of_mem ha] at this
    have : 0 < m.length := List.length_pos_of_mem ha
    rw [List.length_cons]; omega
theorem take_succ_memI {cs : List Int} {i : Nat} {c : Int} (h : cs[i]? = some c) (d : Int) : d ∈ cs.take (i + 1) ↔ d ∈ cs.take i ∨ d = c := by
  rw [List.take_succ, h]
  simp
theorem ints_of_vals2 : ∀ {vs : List Value}, (∀ v ∈ vs, ∃ c t, v = .int c t) → IntsAre vs (vs.map intV)
  | [], _ => .nil
  | v :: vs, h => by
    obtain ⟨c, t, e⟩ := h v (List.mem_cons_self ..)
    subst e
    exact .cons _ t (ints_of_vals2 fun u hu => h u (List.mem_cons_of_mem _ hu))
section
variable {prog : Program} {w : World} {A : Around} {E : Value → Shared → Prop} {s : Shared}
theorem SXI.at {h h' : Heap} {S : Addr} {led : Bool} {cs : List Int} (x : SXI prog w h S led cs) (k : ∀ o, h.get? S = some o → h'.get? S = some o) : SXI prog w h' S led cs := by
  obtain ⟨es, a, b⟩ := x.ex
  exact ⟨es, a.at k, b⟩
theorem set_loopI {cs : List Int} {I S : Addr} {fp : List Addr} {Pv : Nat → Value → Prop} {St : Nat → Heap → Prop} {R : Result → Shared → Prop} {led : Bool} (W : Walks prog w A.in1 I fp [I] cs.length Pv St) (hPv : ∀ i v, Pv i v → ∃ c u, cs[i]? = some c ∧ v = .int c u) (hSf : S ∉ fp) (hz : cs.length < 3900) :
    ∀ (k i : Nat) (h : Heap) (tk : Nat), cs.length - i = k → i ≤ cs.length → St i h → SXI prog w h S led (cs.take i) →
      (∀ h' tk', (∀ b o, b ≠ S → b ≠ I → h.get? b = some o → h'.get? b = some o) → SXI prog w h' S led cs → R (.ok (.ret .none)) { s with heap := h', toks := tk' }) →
      codeAny (model prog w) A (.builtin "set.update.loop" ⟨[.ref S, .ref I], []⟩) R { s with heap := h, toks := tk } := by
  have hSI : S ≠ I := fun z => hSf (z ▸ W.sub I (by simp))
  intro k
  induction k with
  | zero =>
    intro i h tk hk hi hst hS hR
    have hin : i = cs.length := by omega
    subst hin
    refine codeAny_builtin PyProof.Rows.F.entry_set_update_loop ?_
    rw [Around.under_plainId PyProof.Rows.F.plain_set_update_loop _]
    show wpAny _ A.in1 (pyNext (.ref I) >>= _) _ _ _
    refine wpAny_bind (W.done _ _ _ hst fun h' tk' hm => ?_)
    show wpAny _ A.in1 (ret Value.none) _ _ _
    have hm' : ∀ b o, b ≠ I → h.get? b = some o → h'.get? b = some o := fun b o hb e => hm b o (by simpa using hb) e
    refine wpAny_pure (hR h' tk' (fun b o _ h2 e => hm' b o h2 e) ?_)
    have e : cs.take cs.length = cs := List.take_of_length_le (Nat.le_refl _)
    rw [e] at hS
    exact hS.at fun o q => hm' S o hSI q
  | succ k ih =>
    intro i h tk hk hi hst hS hR
    have hlt : i < cs.length := by omega
    refine codeAny_builtin PyProof.Rows.F.entry_set_update_loop ?_
    rw [Around.under_plainId PyProof.Rows.F.plain_set_update_loop _]
    show wpAny _ A.in1 (pyNext (.ref I) >>= _) _ _ _
    refine wpAny_bind (W.item i _ _ _ hlt hst fun v h1 tk1 hP hst1 hm => ?_)
    have hm' : ∀ b o, b ≠ I → h.get? b = some o → h1.get? b = some o := fun b o hb e => hm b o (by simpa using hb) e
    obtain ⟨c, u, hc', rfl⟩ := hPv _ _ hP
    obtain ⟨es, hR1, hsh, hnd, hin⟩ := (hS.at (h' := h1) fun o q => hm' S o hSI q).ex
    show wpAny _ A.in1 (holding [Value.int c u] (setAdd S (.int c u)) >>= _) _ _ _
    refine wpAny_bind (wpAny_holding ?_)
    unfold setAdd
    refine wpAny_holding ?_
    refine wpAny_bind ((PySem.intKind prog w).pyHash (k := c) (intKind_is _ _ _ _) ?_)
    have hlen : es.length ≤ i := by
      have h1 : (es.map (fun e => intV e.2)).length ≤ (cs.take i).length := nodup_lenI hnd fun d hd => (hin d).mp hd
      rw [List.length_map, List.length_take] at h1
      omega
    refine add_int (s := { s with heap := h1, toks := tk1 + 1 }) hR1 (by omega) (fun hex => ?_) (fun hno h2 es2 hsb hR2 hp => ?_)
    · refine wpAny_pure ⟨plainId_quiet PyProof.Rows.F.plain_set_update_loop _, ih (i + 1) h1 (tk1 + 1) (by omega) hlt hst1 ⟨es, hR1, hsh, hnd, fun d => ?_⟩ fun h' tk' hk' hS' => hR h' tk' (fun b o a1 a2 e => hk' b o a1 a2 (hm' b o a2 e)) hS'⟩
      rw [take_succ_memI hc' d, hin d]
      refine ⟨.inl, fun q => ?_⟩
      rcases q with q | q
      · exact q
      · subst q
        obtain ⟨e, he, hk'⟩ := hex
        obtain ⟨c', t', e'⟩ := hsh e he
        rw [← hin d]
        refine List.mem_map.mpr ⟨e, he, ?_⟩
        rw [e'] at hk' ⊢
        have : d = c' := by
          have hk2 : Value.isInt d (.int c' t') = true := hk'
          obtain ⟨_, q⟩ := Value.isInt_shape hk2
          injection q with q1
          exact q1.symm
        rw [this]; rfl
    · have hperm : (es2.map (fun e => intV e.2)).Perm (es.map (fun e => intV e.2) ++ [c]) := by
        have := hp.map (fun e => intV e.2)
        rw [List.map_append] at this
        exact this
      have hnc : c ∉ es.map (fun e => intV e.2) := by
        intro hc1
        obtain ⟨e, he, e1⟩ := List.mem_map.mp hc1
        obtain ⟨c', t', e'⟩ := hsh e he
        have h8 := hno e he
        rw [e'] at h8 e1
        have e2 : c' = c := e1
        subst e2
        rw [intKind_is] at h8
        cases h8
      refine wpAny_pure ⟨plainId_quiet PyProof.Rows.F.plain_set_update_loop _, ih (i + 1) h2 (tk1 + 1) (by omega) hlt (W.frame _ h1 _ hst1 fun b hb o e => ?_) ⟨es2, hR2, fun e he => ?_, ?_, fun d => ?_⟩ fun h' tk' hk' hS' => hR h' tk' (fun b o a1 a2 e => hk' b o a1 a2 ((hsb.2 b a1).trans (hm' b o a2 e))) hS'⟩
      · exact (hsb.2 b (fun z => hSf (z ▸ hb))).trans e
      · rcases List.mem_append.mp (hp.mem_iff.mp he) with q | q
        · exact hsh e q
        · rw [List.mem_singleton.mp q]; exact ⟨c, u, rfl⟩
      · refine hperm.nodup_iff.mpr ?_
        rw [List.nodup_append]
        refine ⟨hnd, by simp, fun a ha b hb e => ?_⟩
        rw [List.mem_singleton.mp hb] at e
        exact hnc (e ▸ ha)
      · rw [hperm.mem_iff, List.mem_append, List.mem_singleton, take_succ_memI hc' d, hin d]
theorem call_set_ints {cs : List Int} {l : Addr} {its : Array Value} {Q : Value → Shared → Prop} (hl : s.heap.IsList l its) (hv : ∀ (i : Nat) (v : Value), its[i]? = some v → ∃ c u, cs[i]? = some c ∧ v = .int c u) (hn : its.size = cs.length) (hh : A.handled = none) (hz : cs.length < 3900)
    (h : ∀ (h' : Heap) (tk : Nat), SXI prog w h' s.heap.objs.size (!w.params.followText "set-order") cs →
      (∀ b o, s.heap.get? b = some o → h'.get? b = some o) → Q (.ref s.heap.objs.size) { s with heap := h', toks := tk }) :
    wpAny (model prog w) A (call (.type "set") [.ref l]) Q E s := by
  obtain ⟨c, tl, hmro⟩ := PySem.F.called_set.mro
  have hmade := PySem.F.called_set.made
  have hsub := PySem.F.called_set.sub
  refine wpAny_call (codeAny_of_tree ?_)
  show wpAny _ _ (callAny (.type "set") _) _ _ _
  refine wpAny_pure ⟨Code.quiet_builtin _ (by decide +kernel), codeAny_builtin PySem.F.entry_type_call ?_⟩
  rw [Around.under_plain (weight_type_call_type "set" [.ref l] []) rfl]
  have h1 := PySem.F.called_set.notType
  have h2 := PySem.F.called_set.canCreate
  have hct := PySem.F.typeCall_set_1 (.ref l)
  repeat (any_goals (first | assumption | wp_step))
  generalize hled : (!w.params.followText "set-order") = led at h
  refine codeAny_mono (setNew (a := .ref l) (E := E) (Q₁ := fun obj s₁ => obj = .ref s.heap.objs.size ∧ s₁ = { s with heap := s.heap.push { cls := .type "set", dict := none, data := .set #[] 0 (.fresh 0 0 led) } }) (by rw [hled]; exact ⟨rfl, rfl⟩)) fun r s₁ hr => ?_
  cases r with
  | error e => exact hr
  | ok fl =>
    cases fl with
    | ret obj =>
      obtain ⟨rfl, rfl⟩ := hr
      have hS : (s.heap.push { cls := .type "set", dict := none, data := .set #[] 0 (.fresh 0 0 led) }).get? s.heap.objs.size = some { cls := .type "set", dict := none, data := .set #[] 0 (.fresh 0 0 led) } := Heap.get?_push_size _ rfl
      have hT : Shared.TypeIs { s with heap := s.heap.push { cls := .type "set", dict := none, data := .set #[] 0 (.fresh 0 0 led) } } (.ref s.heap.objs.size) "set" := ⟨_, hS, rfl⟩
      have hli := PySem.F.called_set.init.lookup
      have hbi := PySem.F.called_set.init.bind (.ref s.heap.objs.size)
      repeat (any_goals (first | assumption | wp_step))
      refine codeAny_mono (codeAny_call_builtin (R := wants (fun r s₂ => r = .none ∧ ∃ h' tk, s₂ = { s with heap := h', toks := tk } ∧ SXI prog w h' s.heap.objs.size led cs ∧
          (∀ b o, s.heap.get? b = some o → h'.get? b = some o)) E) PySem.F.called_set.init.plain PySem.F.entry_set_init (check_set_init_1 hT ?_)) fun r₂ s₂ hr₂ => ?_
      · have hlS : (s.heap.push { cls := .type "set", dict := none, data := .set #[] 0 (.fresh 0 0 led) }).IsList l its := hl.at fun o e => Heap.get?_push_of_some _ e
        have hTl : Shared.TypeIs { s with heap := s.heap.push { cls := .type "set", dict := none, data := .set #[] 0 (.fresh 0 0 led) } } (.ref l) "list" := hlS.typeIs
        have hsls := PySem.F.sub_list_set
        have hslf := PySem.F.sub_list_frozenset
        have hne : (Value.type "list" == Value.type "dict") = false := by decide
        unfold Builtin.«set.__init__» noKeywords Builtin.Frozenset.updateFrom
        generalize hPI : pyIter = PI
        wp_walk
        subst hPI
        refine wpAny_pyIter_list hlS ?_
        refine wpAny_bind (wpAny_runValue ?_)
        have hh3 : A.in1.in1.in1.handled = none := by simp [hh]
        have hz1 : (s.heap.push { cls := .type "set", dict := none, data := .set #[] 0 (.fresh 0 0 led) }).objs.size = s.heap.objs.size + 1 := Heap.size_push ..
        have hSI : s.heap.objs.size ≠ (s.heap.push { cls := .type "set", dict := none, data := .set #[] 0 (.fresh 0 0 led) }).objs.size := by
          rw [hz1]; exact Nat.ne_of_lt (Nat.lt_succ_self _)
        have hlI : l ≠ (s.heap.push { cls := .type "set", dict := none, data := .set #[] 0 (.fresh 0 0 led) }).objs.size := by
          obtain ⟨o, ho, _⟩ := id hlS
          exact Nat.ne_of_lt (Heap.lt_size ho)
        have hlS2 : s.heap.objs.size ≠ l := by
          obtain ⟨o, ho, _⟩ := id hl
          exact Nat.ne_of_gt (Heap.lt_size ho)
        have W := Walks.list (prog := prog) (w := w) (A := A.in1.in1.in1) hh3 (s.heap.push { cls := .type "set", dict := none, data := .set #[] 0 (.fresh 0 0 led) }).objs.size l hlI its
        rw [hn] at W
        refine set_loopI (s := s) (cs := cs) (S := s.heap.objs.size) (led := led) W hv (fun hm => ?_) hz (cs.length - 0) 0 _ _ (by omega) (Nat.zero_le _)
          ⟨⟨_, Heap.get?_push_size _ rfl, rfl, rfl⟩, hlS.at fun o e => Heap.get?_push_of_some _ e⟩ ⟨[], ⟨⟨_, #[], 0, _, Heap.get?_push_of_some _ hS, ⟨rfl, rfl, rfl⟩, rfl, rfl, by rfl, rfl, .inr (fun i j _ hj => absurd hj (Nat.not_lt_zero _))⟩, fun e he => by simp at he, by decide⟩, fun e he => by simp at he, List.Pairwise.nil, fun c => by simp⟩ ?_
        · rcases List.mem_cons.mp hm with e | e
          · exact hSI e
          · exact hlS2 (List.mem_singleton.mp e)
        intro h' tk' hk hS'
        show wpAny _ _ _ _ _ _
        refine wpAny_pure ?_
        show wpAny _ _ (ret Value.none) _ _ _
        refine wpAny_pure ⟨rfl, h', tk', rfl, hS', fun b o e => ?_⟩
        have hb := Heap.lt_size e
        exact hk b o (Nat.ne_of_lt hb) (by rw [hz1]; exact Nat.ne_of_lt (Nat.lt_succ_of_lt hb)) (Heap.get?_push_of_some _ (Heap.get?_push_of_some _ e))
      · cases r₂ with
        | error e => exact hr₂
        | ok fl₂ =>
          cases fl₂ with
          | ret r =>
            obtain ⟨rfl, h', tk, rfl, hS', hk'⟩ := hr₂
            repeat (any_goals (first | assumption | wp_step))
            exact h _ _ hS' hk'
          | _ => exact hr₂.elim
    | _ => exact hr.elim
end
section
variable {prog : Program} {w : World} {A : Around} {E : Value → Shared → Prop} {s : Shared}
theorem sorted_ints {S : Addr} {cs : List Int} {Q : Value → Shared → Prop} (hh : A.handled = none) (hS : SXI prog w s.heap S (!w.params.followText "set-order") cs)
    (h : ∀ (D : Addr) (h' : Heap) (d : Drawn) (tk n : Nat) (vs : List Value) (ds : List Int), s.heap.objs.size ≤ D → (∀ b o, s.heap.get? b = some o → h'.get? b = some o) → h'.get? D = some (seqObj "list" vs.toArray n) → IntsAre vs ds → ds.Pairwise (· ≤ ·) → ds.Nodup → (∀ c, c ∈ ds ↔ c ∈ cs) →
      Q (.ref D) { s with heap := h', drawn := d, toks := tk }) :
    wpAny (model prog w) A (call (.builtin "sorted") [.ref S]) Q E s := by
  obtain ⟨es, hR, hsh, hnd, hin⟩ := hS.ex
  refine Calls.call_function_entry kind_sorted plain_sorted entry_sorted (args_sorted1 _) ?_
  unfold Builtin.«sorted»
  refine wpAny_bind (m := checkCount "sorted" 1 1 _) (wpAny_pure ?_)
  refine wpAny_bind (set_collectI (A := A.in1) hh hR fun h1 d tk acc hbig hk hp => ?_)
  have hcode : (acc.toList.map intV).Perm (es.map (fun e => intV e.2)) := by
    have := hp.map intV
    rw [List.map_map] at this
    exact this
  have hall : ∀ v ∈ acc.toList, ∃ c t, v = .int c t := fun v hv => by
    obtain ⟨e, he, e1⟩ := List.mem_map.mp (hp.mem_iff.mp hv)
    obtain ⟨c, t, e2⟩ := hsh e he
    exact ⟨c, t, by rw [← e1]; exact e2⟩
  have hst := ints_of_vals2 hall
  have hle : acc.toList.length ≤ 100000 := by
    have := hR.bd
    rw [hp.length_eq, List.length_map]; omega
  refine wpAny_bind (wpAny_newList ?_ (by rw [sizeLine_eq]; simp only [Array.length_toList] at hle ⊢; omega))
  have hoL : (h1.push (seqObj "list" acc.toList.toArray 0)).get? h1.objs.size = some (seqObj "list" acc.toList.toArray 0) := Heap.get?_push_size _ rfl
  refine wpAny_bind (wpAny_holding (wpAny_call_entry slot_list_sort (s := { s with heap := h1.push (seqObj "list" acc.toList.toArray 0), drawn := d, toks := tk }) ⟨_, hoL, rfl⟩ entry_list_sort (Zs.sort_any Zs.intK_lt hoL (Zs.intK_of hst) (fun x y r e => keyKind_ints (by rw [← e]; exact hst)) hle fun st' a1 a2 => ⟨_, rfl, ?_⟩) (args_list_sort _)))
  obtain ⟨ys, b1, b2, b3⟩ := Zs.out_ints hst a1 a2
  obtain ⟨e, he⟩ := sortedHeap_at (vs := acc.toList) (out := (arrOf st').map (·.2)) hoL
  refine wpAny_pure ⟨_, rfl, h h1.objs.size _ d tk e _ ys (Nat.le_of_lt hbig) (fun b o q => ?_) he b1 b3 ?_ fun c => ?_⟩
  · have hb := Heap.lt_size (hk b o q)
    rw [sortedHeap_old (Nat.ne_of_lt hb) (by rw [size_push']; exact Nat.lt_succ_of_lt hb)]
    exact Heap.get?_push_of_some _ (hk b o q)
  · exact (b2.trans hcode).nodup_iff.mpr hnd
  · rw [(b2.trans hcode).mem_iff]
    exact hin c
end
def tSortedSetI (K : PySem.W.Frag) (ta : TA) : TE := fun σ H Q => ta σ H fun vs H1 => ∃ (l0 : Addr) (cs : List Int), vs = [.ref l0] ∧ SqL K H1 l0 (cs.map V.int) ∧ cs.length < 3900 ∧
  ∀ (l : Addr) (ds : List Int), H1 l = none → ds.Pairwise (· ≤ ·) → ds.Nodup → (∀ c, c ∈ ds ↔ c ∈ cs) → Q (.ref l) (upd H1 l (.lst (ds.map V.int)))
theorem pe_sortedSetI {X : Cx} {e : Expr} {ta : TA} {p p2 pos pos2 : Pos} (hc : X.calm = true) (hgl : Gl X "sorted") (hml : X.mg "sorted" = none) (hg : Gl X "set") (hm : X.mg "set" = none) (ha : PA X [e] ta)
    (hs : starEach [e] X.env = [(false, eval e X.env)] := by rfl) (hs2 : starEach [Expr.Call (.Name "set" p2) [e] [] pos2] X.env = [(false, eval (Expr.Call (.Name "set" p2) [e] [] pos2) X.env)] := by rfl) :
    PE X (.Call (.Name "sorted" p) [.Call (.Name "set" p2) [e] [] pos2] [] pos) (tSortedSetI X.K ta) := by
  intro pins s σ H Q I h
  refine wpAny_Call_Name_kw (ld_blt (u := .builtin "sorted") I hgl hml (by decide +kernel) ?_)
  refine PyProof.Rows.callWith_builtin1 ?_ hs2 rfl
  rw [hs2]
  show wpAny _ _ (spliced ((false, eval _ X.env) :: backTo pos [])) _ _ s
  refine Calls.spliced_cons (Call_ (ld_blt (u := .type "set") I hg hm (by decide +kernel) (PyProof.Rows.callWith_type1 (thn (ha pos2 pins s σ H _ I h) fun us s1 ⟨vs, H1, I1, r1, q1⟩ => ?_) hs rfl)))
  obtain ⟨l0, cs, e, hq, hz, q⟩ := q1
  subst e
  obtain ⟨u, rfl, ru⟩ := vals1 r1
  cases ru
  obtain ⟨its, rv, pl, hlen0⟩ := I1.list hq
  have hlen1 := rv.length
  rw [List.length_map] at hlen1
  refine call_set_ints (cs := cs) pl.isList (fun i v hi => ?_) (by rw [List.size_toArray]; exact hlen1.symm) (I.ok.hd hc) hz fun h1 tk hS hk => Calls.spliced_nil ?_
  case refine_1 =>
    have hi' : its[i]? = some v := by simpa using hi
    have hlt : i < cs.length := by
      have := (List.getElem?_eq_some_iff.mp hi').1
      omega
    have hx : (cs.map V.int)[i]? = some (V.int cs[i]) := by
      rw [List.getElem?_map, List.getElem?_eq_getElem hlt]; rfl
    obtain ⟨u, hu, t, rfl⟩ := rv.get hx
    rw [hi'] at hu
    cases hu
    exact ⟨cs[i], t, List.getElem?_eq_getElem hlt, rfl⟩
  refine sorted_ints (s := { s1 with heap := h1, toks := tk }) (I.ok.hd hc) hS fun D h2 d tk2 n vs ds hD hk2 hat hst hsd hnd hin => ?_
  dsimp only at hD hk2 ⊢
  have hbig : s1.heap.objs.size ≤ h1.objs.size := by
    obtain ⟨es, hR, _⟩ := hS.ex
    obtain ⟨o, ea, ep, t', ho, _⟩ := hR.ex
    exact Nat.le_of_lt (Heap.lt_size ho)
  have hDn : s1.heap.objs.size ≤ D := Nat.le_trans hbig hD
  have hlen : (ds.map V.int).length ≤ sizeLine := by
    rw [List.length_map]
    have := nodup_lenI hnd fun d hd => (hin d).mp hd
    rw [sizeLine_eq]; omega
  have I2 : Inv X pins σ (upd H1 D (.lst (ds.map V.int))) { s1 with heap := h2, toks := tk2 } := I1.laid (fun b o q => hk2 b o (hk b o q)) hDn ⟨hlen, vs, n, vals_of_ints hst, hat⟩
  exact ⟨.ref D, _, I2.drawn d, rfl, q D ds (I1.hok.fresh hDn) hsd hnd hin⟩
end L2
set_option Elab.async false
set_option linter.all false
set_option maxRecDepth 100000
set_option maxHeartbeats 1600000
namespace L2
open PySem
theorem idx_at4 {c : Nat} : ∀ {l : List Nat} {j : Nat}, idx c l = some j → l[j]? = some c ∧ ∀ m : Nat, l[m]? = some c → j ≤ m
  | [], j, h => by cases h
  | x :: l, j, h => by
    have ix : idx c (x :: l) = if x = c then some 0 else (idx c l).map (· + 1) := rfl
    rw [ix] at h
    by_cases e : x = c
    · rw [if_pos e] at h
      cases h
      exact ⟨by rw [e]; rfl, fun m _ => Nat.zero_le _⟩
    · rw [if_neg e] at h
      obtain ⟨i, hi, rfl⟩ := Option.map_eq_some_iff.mp h
      obtain ⟨h1, h2⟩ := idx_at4 hi
      refine ⟨by rw [List.getElem?_cons_succ]; exact h1, fun m hm => ?_⟩
      cases m with
      | zero => rw [List.getElem?_cons_zero] at hm; exact absurd (Option.some.inj hm) e
      | succ m => rw [List.getElem?_cons_succ] at hm; have := h2 m hm; omega
theorem idx_called {f : Nat → Nat} {c : Nat} : ∀ {l : List Nat}, (∀ x ∈ l, f x = f c → x = c) → idx (f c) (l.map f) = idx c l
  | [], _ => rfl
  | x :: l, h => by
    have ix : idx c (x :: l) = if x = c then some 0 else (idx c l).map (· + 1) := rfl
    have iy : idx (f c) ((x :: l).map f) = if f x = f c then some 0 else (idx (f c) (l.map f)).map (· + 1) := rfl
    rw [ix, iy, idx_called fun y hy => h y (List.mem_cons_of_mem _ hy)]
    by_cases e : x = c
    · rw [if_pos e, if_pos (by rw [e])]
    · rw [if_neg e, if_neg fun g => e (h x List.mem_cons_self g)]
theorem fsts_called {f : Nat → Nat} {P : Nat → Prop} (hf : ∀ x y, P x → P y → f x = f y → x = y) {cs : List Nat} (hc : ∀ c ∈ cs, P c) : ∀ (ds : List Nat) (i : Nat), (∀ d ∈ ds, P d) → fsts (cs.map f) i (ds.map f) = fsts cs i ds
  | [], i, _ => rfl
  | d :: ds, i, hd => by
    rw [List.map_cons, fsts_cons, fsts_cons]
    have e : nxt (cs.map f) i (sg (f d)) = nxt cs i (sg d) := by
      rw [nxt_idx, nxt_idx, ← List.map_drop, idx_called fun x hx g => hf x d (hc x (List.mem_of_mem_drop hx)) (hd d List.mem_cons_self) g]
    rw [e]
    cases nxt cs i (sg d) with
    | none => rfl
    | some k =>
      dsimp only
      rw [fsts_called hf hc ds (k + 1) fun y hy => hd y (List.mem_cons_of_mem _ hy)]
theorem prv_idx {cs : List Nat} {d : Nat} : ∀ (e : Nat), e ≤ cs.length → prv cs e (sg d) = (idx d (cs.take e).reverse).map (e - 1 - ·)
  | 0, _ => rfl
  | e + 1, h => by
    obtain ⟨c, hc⟩ : ∃ c, cs[e]? = some c := ⟨_, List.getElem?_eq_getElem (by omega)⟩
    have e1 : (cs.take (e + 1)).reverse = c :: (cs.take e).reverse := by rw [List.take_add_one, hc]; simp
    have ix : idx d (c :: (cs.take e).reverse) = if c = d then some 0 else (idx d (cs.take e).reverse).map (· + 1) := rfl
    rw [e1, ix]
    by_cases g : c = d
    · rw [if_pos g, ← g, prv_hit hc]; rfl
    · rw [if_neg g, prv_miss hc g, prv_idx e (by omega), Option.map_map]
      congr 1
      funext j
      show e - 1 - j = e + 1 - 1 - (j + 1)
      omega
theorem lsts_mirror {cs : List Nat} : ∀ (ds : List Nat) (e : Nat), e ≤ cs.length → lsts cs e ds = (fsts cs.reverse (cs.length - e) ds).map (List.map (cs.length - 1 - ·))
  | [], e, _ => rfl
  | d :: ds, e, h => by
    rw [fsts_cons]
    have ls : lsts cs e (d :: ds) = match prv cs e (sg d) with | none => none | some k => (lsts cs k ds).map (k :: ·) := rfl
    have hn : nxt cs.reverse (cs.length - e) (sg d) = (idx d (cs.take e).reverse).map (cs.length - e + ·) := by
      rw [nxt_idx]
      congr 2
      rw [List.drop_reverse]
      congr 2
      omega
    rw [ls, prv_idx e h, hn]
    cases hi : idx d (cs.take e).reverse with
    | none => rfl
    | some j =>
      have hj : j < e := by
        have := (List.getElem?_eq_some_iff.mp (idx_at4 hi).1).1
        rw [List.length_reverse, List.length_take] at this; omega
      show (lsts cs (e - 1 - j) ds).map _ = ((fsts cs.reverse (cs.length - e + j + 1) ds).map (fun r => (cs.length - e + j) :: r)).map _
      rw [lsts_mirror ds (e - 1 - j) (by omega), show cs.length - (e - 1 - j) = cs.length - e + j + 1 from by omega, Option.map_map, Option.map_map]
      congr 1
      funext ks
      show (e - 1 - j) :: ks.map (cs.length - 1 - ·) = ((cs.length - e + j) :: ks).map (cs.length - 1 - ·)
      rw [List.map_cons]
      congr 1
      omega
theorem lastP_mirror (cs ds : List Nat) : lastP cs ds = (fsts cs.reverse 0 ds.reverse).map fun ks => (ks.map (cs.length - 1 - ·)).reverse := by
  unfold lastP
  rw [lsts_mirror ds.reverse cs.length (Nat.le_refl _), Nat.sub_self, Option.map_map]
  rfl
theorem fsts_rise4 (cs : List Nat) : ∀ (ys : List Nat) (i : Nat) (ks : List Nat), fsts cs i ys = some ks → (∀ k ∈ ks, i ≤ k) ∧ ks.Pairwise (· < ·)
  | [], i, ks, h => by cases h; exact ⟨(fun k hk => nomatch hk), List.Pairwise.nil⟩
  | y :: ys, i, ks, h => by
    rw [fsts_cons] at h
    cases hn : nxt cs i (sg y) with
    | none => rw [hn] at h; cases h
    | some k =>
      rw [hn] at h
      obtain ⟨r, hr, rfl⟩ := Option.map_eq_some_iff.mp h
      obtain ⟨h1, h2⟩ := fsts_rise4 cs ys (k + 1) r hr
      have hk := (nxt_bounds hn).1
      refine ⟨fun j hj => ?_, List.pairwise_cons.mpr ⟨fun j hj => h1 j hj, h2⟩⟩
      rcases List.mem_cons.mp hj with rfl | hj
      · exact hk
      · have := h1 j hj; omega
theorem fsts_spell (cs : List Nat) : ∀ (ys : List Nat) (i : Nat) (ks : List Nat), fsts cs i ys = some ks → ks.map (fun k => cs[k]?) = ys.map some
  | [], i, ks, h => by cases h; rfl
  | y :: ys, i, ks, h => by
    rw [fsts_cons] at h
    cases hn : nxt cs i (sg y) with
    | none => rw [hn] at h; cases h
    | some k =>
      rw [hn] at h
      obtain ⟨r, hr, rfl⟩ := Option.map_eq_some_iff.mp h
      rw [List.map_cons, List.map_cons, fsts_spell cs ys (k + 1) r hr, (nxt_bounds hn).2.2]
/-- as long, none greater -/
def LeAll (ks ls : List Nat) : Prop := ks.length = ls.length ∧ ∀ (j a b : Nat), ks[j]? = some a → ls[j]? = some b → a ≤ b
/-- the first places are the least -/
theorem fsts_least (cs : List Nat) : ∀ (ys ls : List Nat) (i : Nat), ls.Pairwise (· < ·) → (∀ l ∈ ls, i ≤ l) → ls.map (fun k => cs[k]?) = ys.map some →
    ∃ ks, fsts cs i ys = some ks ∧ LeAll ks ls
  | [], ls, i, _, _, h => by
    have : ls = [] := by cases ls with | nil => rfl | cons a b => simp at h
    subst this
    exact ⟨[], rfl, rfl, fun j a b h => by simp at h⟩
  | y :: ys, [], i, _, _, h => by simp at h
  | y :: ys, l :: ls, i, hp, hi, h => by
    rw [List.map_cons, List.map_cons] at h
    injection h with h1 h2
    obtain ⟨p1, p2⟩ := List.pairwise_cons.mp hp
    have hil := hi l List.mem_cons_self
    have hmem : y ∈ cs.drop i := List.mem_iff_getElem?.mpr ⟨l - i, by rw [List.getElem?_drop, show i + (l - i) = l from by omega]; exact h1⟩
    obtain ⟨k, hk, k1, k2⟩ := nxt_mem hmem
    have hkl : k ≤ l := by
      have hk' := hk
      rw [nxt_idx] at hk'
      obtain ⟨j, hj, rfl⟩ := Option.map_eq_some_iff.mp hk'
      have := (idx_at4 hj).2 (l - i) (by rw [List.getElem?_drop, show i + (l - i) = l from by omega]; exact h1)
      omega
    obtain ⟨ks, e, f⟩ := fsts_least cs ys ls (k + 1) p2 (fun m hm => by have := p1 m hm; omega) h2
    refine ⟨k :: ks, by rw [fsts_cons, hk]; dsimp only; rw [e]; rfl, by rw [List.length_cons, List.length_cons, f.1], fun j a b ha hb => ?_⟩
    cases j with
    | zero => cases ha; cases hb; exact hkl
    | succ j => exact f.2 j a b ha hb
theorem left_is4 {xs ys : List Nat} : (fsts xs 0 ys).isSome = decide (ys.Sublist xs) := by
  by_cases h : ys.Sublist xs
  · rw [decide_eq_true h]; exact fsts_sub ys xs 0 h
  · rw [decide_eq_false h]
    cases e : (fsts xs 0 ys).isSome with
    | false => rfl
    | true => exact absurd (sub_fsts ys xs 0 e) h
theorem last_is4 {xs ys : List Nat} : (lastP xs ys).isSome = decide (ys.Sublist xs) := by
  rw [lastP_mirror, Option.isSome_map, left_is4]
  exact decide_eq_decide.mpr List.reverse_sublist
/-- last places: rising, spelling, within -/
theorem last_facts {cs ys ls : List Nat} (h : lastP cs ys = some ls) : ls.Pairwise (· < ·) ∧ ls.map (fun k => cs[k]?) = ys.map some ∧ (∀ l ∈ ls, l < cs.length) ∧ ls.length = ys.length := by
  rw [lastP_mirror] at h
  obtain ⟨ks, hk, rfl⟩ := Option.map_eq_some_iff.mp h
  obtain ⟨_, hr⟩ := fsts_rise4 _ _ _ _ hk
  have hs := fsts_spell _ _ _ _ hk
  obtain ⟨hl, hb⟩ := fsts_few _ _ _ hk
  rw [List.length_reverse] at hb hl
  refine ⟨?_, ?_, fun l hl' => ?_, by rw [List.length_reverse, List.length_map, hl]⟩
  · rw [List.pairwise_reverse, List.pairwise_map]
    refine List.Pairwise.imp_of_mem (fun {a b} ha hb' hab => ?_) hr
    have := hb a ha
    have := hb b hb'
    omega
  · rw [List.map_reverse, List.map_map]
    have e : ks.map ((fun k => cs[k]?) ∘ fun x => cs.length - 1 - x) = ks.map fun k => cs.reverse[k]? := List.map_congr_left fun k hk' => by
      have := hb k hk'
      rw [List.getElem?_reverse (by omega)]
      rfl
    rw [e, hs, ← List.map_reverse, List.reverse_reverse]
  · rw [List.mem_reverse] at hl'
    obtain ⟨k, hk', rfl⟩ := List.mem_map.mp hl'
    have := hb k hk'
    omega
theorem first_last {cs ys ks ls : List Nat} (h1 : fsts cs 0 ys = some ks) (h2 : lastP cs ys = some ls) : LeAll ks ls := by
  obtain ⟨a, b, _, _⟩ := last_facts h2
  obtain ⟨ks', e, f⟩ := fsts_least cs ys ls 0 a (fun _ _ => Nat.zero_le _) b
  rw [h1] at e
  cases e
  exact f
/-- sorted(set(xs)) of a rising list is itself -/
theorem set_sorted {ks : List Nat} {ds : List Int} (hk : ks.Pairwise (· < ·)) (hp : ds.Pairwise (· ≤ ·)) (hn : ds.Nodup) (hm : ∀ c, c ∈ ds ↔ c ∈ ks.map fun k : Nat => (k : Int)) : ds = ks.map fun k : Nat => (k : Int) := by
  have hr : ds.Pairwise (· < ·) := by
    clear hm
    induction ds with
    | nil => exact .nil
    | cons d ds ih =>
      obtain ⟨h1, h2⟩ := List.pairwise_cons.mp hp
      obtain ⟨n1, n2⟩ := List.nodup_cons.mp hn
      refine List.pairwise_cons.mpr ⟨fun e he => ?_, ih h2 n2⟩
      have := h1 e he
      have : d ≠ e := fun z => n1 (z ▸ he)
      omega
  have hk' : (ks.map fun k : Nat => (k : Int)).Pairwise (· < ·) := by
    rw [List.pairwise_map]
    exact hk.imp fun h => by omega
  have uniq : ∀ (a b : List Int), a.Pairwise (· < ·) → b.Pairwise (· < ·) → (∀ c, c ∈ a ↔ c ∈ b) → a = b := by
    intro a
    induction a with
    | nil =>
      intro b _ _ h
      cases b with
      | nil => rfl
      | cons x b => exact absurd ((h x).mpr List.mem_cons_self) (by simp)
    | cons x a ih =>
      intro b ha hb h
      cases b with
      | nil => exact absurd ((h x).mp List.mem_cons_self) (by simp)
      | cons y b =>
        obtain ⟨a1, a2⟩ := List.pairwise_cons.mp ha
        obtain ⟨b1, b2⟩ := List.pairwise_cons.mp hb
        have hxy : x = y := by
          rcases List.mem_cons.mp ((h x).mp List.mem_cons_self) with e | e
          · exact e
          · rcases List.mem_cons.mp ((h y).mpr List.mem_cons_self) with e2 | e2
            · exact e2.symm
            · have := a1 y e2; have := b1 x e; omega
        subst hxy
        congr 1
        refine ih b a2 b2 fun c => ⟨fun hc => ?_, fun hc => ?_⟩
        · rcases List.mem_cons.mp ((h c).mp (List.mem_cons_of_mem _ hc)) with e | e
          · have := a1 c hc; omega
          · exact e
        · rcases List.mem_cons.mp ((h c).mpr (List.mem_cons_of_mem _ hc)) with e | e
          · have := b1 c hc; omega
          · exact e
  exact uniq _ _ hr hk' hm
theorem take_snoc4 {α : Type} {l : List α} {i : Nat} {a : α} (h : l[i]? = some a) : l.take (i + 1) = l.take i ++ [a] := by rw [List.take_add_one, h]; rfl
def spPlaces4 (t1 : Addr) : Sp := fun vs H Q _ => ∃ z y : Str, vs = [.str z, .str y] ∧ IsRow z ∧ IsRow y ∧ z.length ≤ 80 ∧ y.length ≤ 80 ∧ H t1 = some (.ext (TabP t1)) ∧ ∀ H', Same H H' → Q (.bl true) H'
def spLeftR4 (t1 : Addr) : Sp := fun vs H Q _ => ∃ (p : Addr) (z y : Str), vs = [.ref p, .str z, .str y] ∧ HandAt H p ∧ IsRow z ∧ IsRow y ∧ z.length ≤ 80 ∧ y.length ≤ 80 ∧ H t1 = some (.ext (TabP t1)) ∧ ∀ H', HandAt H' p → Kp p H H' → Q (.bl true) H'
end L2
set_option Elab.async false
set_option linter.all false
set_option maxRecDepth 100000
set_option maxHeartbeats 3200000
namespace L2
open PySem PySem.Spec PyProof.Rows
def rListD : List V → Hp → VK → Prop := fun xs H Q => ∃ (d : Addr) (kvs : List (Key × V)), xs = [.ref d] ∧ Rd H d (.dK kvs) ∧ ∀ p, H p = none → Q (.ref p) (upd H p (.lst (kvs.map fun kv => kV kv.1)))
section
variable {X : Cx} {pins : List (Addr × Obj)} {σ : St} {H : Hp} {s : Shared} {d : Addr}
end
def iKeysF (td : TE) : TI := fun σ H R => td σ H fun x H1 => ∃ d kvs, x = .ref d ∧ H1 d = some (.dK kvs) ∧ ∀ o, R (Itk d o kvs) (upd H1 d (.frz o (.dK kvs)))
end L2
set_option Elab.async false
set_option linter.all false
set_option maxRecDepth 100000
set_option maxHeartbeats 8000000
namespace Lv
open PySem L2
section
variable {P : Program} {w : World} {K : PySem.W.Frag} {mg : Str → Option Value} {base : Heap} {f : Addr} {fd : FuncData}
abbrev sLawPlacesRight : Stmt := top 15
def nLawPlacesRight : List Str := ["row", "other", "first", "last", "back", "place", "one", "further"]
theorem scLawPlacesRight : FnScope nLawPlacesRight ["row", "other"] (defScope sLawPlacesRight) := ⟨rfl, rfl, rfl, by decide +kernel, rfl, by decide +kernel, by decide +kernel⟩
theorem ok_places4 (T : Glb mg) {t1 : Addr} (c_first_places : Callee P w K mg base 1 "first_places" ["row", "other"] spFirst2) (c_last_places : Callee P w K mg base 1 "last_places" ["row", "other"] spLast) (c_is_left : Callee P w K mg base 2 "is_left" ["row", "thing"] (spIsLeft2 K t1)) (c_law_called : Callee P w K mg base 1 "_law_called" ["text"] spCalled) (F : Fun K "_law_places_right" "_law_places_right" sLawPlacesRight f fd) : FnOk P w K mg base CX0 3 f fd ["row", "other"] (spPlaces4 t1) := by
  refine F.ok scLawPlacesRight (fun vs H Q E h => ?_) (fun cdv A outer s H vs Q E hr h => ?_)
  · obtain ⟨z, y, rfl, _⟩ := h
    rfl
  obtain ⟨z, y, rfl, rz, ry, lz, ly, hT, q⟩ := h
  have hu := hu_of hr
  refine' ⟨_, ?TT, ?RR⟩
  case TT =>
    refine' pss_cons ?x1 ?x2
    case x1 =>
     refine' ps_set (i := 2) scLawPlacesRight.nd rfl (Or.inl rfl) ?x3
     case x3 =>
      refine' pe_callC c_first_places hr rfl ?x4
      case x4 =>
       refine' pa_Name (pv 0) ?x5
       case x5 =>
        refine' pa_Name (pv 1) ?x6
        case x6 =>
         exact pa_nil
    case x2 =>
     refine' pss_cons ?x7 ?x8
     case x7 =>
      refine' ps_set (i := 3) scLawPlacesRight.nd rfl (Or.inl rfl) ?x9
      case x9 =>
       refine' pe_callC c_last_places hr rfl ?x10
       case x10 =>
        refine' pa_Name (pv 0) ?x11
        case x11 =>
         refine' pa_Name (pv 1) ?x12
         case x12 =>
          exact pa_nil
     case x8 =>
      refine' pss_cons ?x13 ?x14
      case x13 =>
       refine' ps_if ?x15 ?x16 ?x17
       case x15 =>
        refine' PW.pt ?x18
        case x18 =>
         refine' pw_or ?x19 ?x20
         case x19 =>
          refine' pt_cmpR op_eq ?x21 ?x22 (nomark _)
          case x21 =>
           refine' pe_cmpR op_isN (pv 2) ?x23 (nomark _)
           case x23 =>
            exact pe_non
          case x22 =>
           refine' pe_callC c_is_left hr rfl ?x24
           case x24 =>
            refine' pa_Name (pv 0) ?x25
            case x25 =>
             refine' pa_Name (pv 1) ?x26
             case x26 =>
              exact pa_nil
         case x20 =>
          refine' pw_or1 ?x27
          case x27 =>
           refine' pt_cmpR op_eq ?x28 ?x29 (nomark _)
           case x28 =>
            refine' pe_cmpR op_isN (pv 3) ?x30 (nomark _)
            case x30 =>
             exact pe_non
           case x29 =>
            refine' pe_callC c_is_left hr rfl ?x31
            case x31 =>
             refine' pa_Name (pv 0) ?x32
             case x32 =>
              refine' pa_Name (pv 1) ?x33
              case x33 =>
               exact pa_nil
       case x16 =>
        refine' pss_one ?x34
        case x34 =>
         refine' ps_ret ?x35
         case x35 =>
          exact pe_bl
       case x17 =>
        exact pss_nil
      case x14 =>
       refine' pss_cons ?x36 ?x37
       case x36 =>
        refine' ps_if ?x38 ?x39 ?x40
        case x38 =>
         refine' pt_cmpR op_isN (pv 2) ?x41 (nomark _)
         case x41 =>
          exact pe_non
        case x39 =>
         refine' pss_one ?x42
         case x42 =>
          refine' ps_ret ?x43
          case x43 =>
           exact pe_bl
        case x40 =>
         exact pss_nil
       case x37 =>
        refine' pss_cons ?x44 ?x45
        case x44 =>
         refine' ps_cut ?x46
         case x46 =>
          refine' ps_if ?x47 ?x48 ?x49
          case x47 =>
           refine' pt_cmpR op_ne ?x50 (pv 1) (nomark _)
           case x50 =>
            refine' pe_join ?x51 ?x52
            case x51 =>
             exact pe_str
            case x52 =>
             refine' pe_lc (own := [("place", 5)]) (g := gName 5) (by rfl) scLawPlacesRight.nd ?x53 (blkOk_by (own := [("place", 5)]) (N := nLawPlacesRight) (sc := defScope sLawPlacesRight) (by decide +kernel)) (fun _ _ _ _ _ => pg_name (i := 5) scLawPlacesRight.nd rfl (Or.inl rfl)) ?x54 ?x55
             case x53 =>
              exact (pi_list (pv 2))
             case x54 =>
              intro _ _ _ _ _
              exact pts_nil
             case x55 =>
              intro _ _ _ _ _
              exact (pe_ix ix_str (pv 0) (pv 5) (fun _ _ => rfl))
          case x48 =>
           refine' pss_one ?x56
           case x56 =>
            refine' ps_ret ?x57
            case x57 =>
             exact pe_bl
          case x49 =>
           exact pss_nil
        case x45 =>
         refine' pss_cons ?x58 ?x59
         case x58 =>
          refine' ps_cut ?x60
          case x60 =>
           refine' ps_if ?x61 ?x62 ?x63
           case x61 =>
            refine' pt_cmpR op_ne ?x64 (pv 1) (nomark _)
            case x64 =>
             refine' pe_join ?x65 ?x66
             case x65 =>
              exact pe_str
             case x66 =>
              refine' pe_lc (own := [("place", 5)]) (g := gName 5) (by rfl) scLawPlacesRight.nd ?x67 (blkOk_by (own := [("place", 5)]) (N := nLawPlacesRight) (sc := defScope sLawPlacesRight) (by decide +kernel)) (fun _ _ _ _ _ => pg_name (i := 5) scLawPlacesRight.nd rfl (Or.inl rfl)) ?x68 ?x69
              case x67 =>
               exact (pi_list (pv 3))
              case x68 =>
               intro _ _ _ _ _
               exact pts_nil
              case x69 =>
               intro _ _ _ _ _
               exact (pe_ix ix_str (pv 0) (pv 5) (fun _ _ => rfl))
           case x62 =>
            refine' pss_one ?x70
            case x70 =>
             refine' ps_ret ?x71
             case x71 =>
              exact pe_bl
           case x63 =>
            exact pss_nil
         case x59 =>
          refine' pss_cons ?x72 ?x73
          case x72 =>
           refine' ps_cut ?x74
           case x74 =>
            refine' ps_if ?x75 ?x76 ?x77
            case x75 =>
             refine' PW.pt ?x78
             case x78 =>
              refine' pw_or ?x79 ?x80
              case x79 =>
               refine' pt_cmpR (op_neD hr.units) (pv 2) ?x81 (nomark _)
               case x81 =>
                refine' pe_sortedSetI rfl rfl T.m_sorted rfl T.m_set ?x82
                case x82 =>
                 refine' pa_Name (pv 2) ?x83
                 case x83 =>
                  exact pa_nil
              case x80 =>
               refine' pw_or1 ?x84
               case x84 =>
                refine' pt_cmpR (op_neD hr.units) (pv 3) ?x85 (nomark _)
                case x85 =>
                 refine' pe_sortedSetI rfl rfl T.m_sorted rfl T.m_set ?x86
                 case x86 =>
                  refine' pa_Name (pv 3) ?x87
                  case x87 =>
                   exact pa_nil
            case x76 =>
             refine' pss_one ?x88
             case x88 =>
              refine' ps_ret ?x89
              case x89 =>
               exact pe_bl
            case x77 =>
             exact pss_nil
          case x73 =>
           refine' pss_cons ?x90 ?x91
           case x90 =>
            refine' ps_cut ?x92
            case x92 =>
             refine' ps_if ?x93 ?x94 ?x95
             case x93 =>
              refine' pt_cmpR (op_neD hr.units) ?x96 ?x97 (nomark _)
              case x96 =>
               refine' pe_lc (own := [("one", 6), ("further", 7)]) (g := (gTup K 2 (gCons (gName 6) (gCons (gName 7) gNil)))) (by rfl) scLawPlacesRight.nd ?x98 (blkOk_by (own := [("one", 6), ("further", 7)]) (N := nLawPlacesRight) (sc := defScope sLawPlacesRight) (by decide +kernel)) (fun _ _ _ _ _ => (pg_tupK (K := K) rfl (pg_tup rfl (pgs_cons (pg_name (i := 6) scLawPlacesRight.nd rfl (Or.inl rfl)) (pgs_cons (pg_name (i := 7) scLawPlacesRight.nd rfl (Or.inl rfl)) pgs_nil))))) ?x99 ?x100
               case x98 =>
                refine' pi_zip rfl T.m_zip ?x101
                case x101 =>
                 refine' pa_Name (pv 2) ?x102
                 case x102 =>
                  refine' pa_Name (pv 3) ?x103
                  case x103 =>
                   exact pa_nil
               case x99 =>
                intro _ _ _ _ _
                exact pts_one (pt_cmpR op_gt (pv 6) (pv 7) (nomark _))
               case x100 =>
                intro _ _ _ _ _
                exact pe_int
              case x97 =>
               refine' pe_lst ?x104
               case x104 =>
                exact pa_nil
             case x94 =>
              refine' pss_one ?x105
              case x105 =>
               refine' ps_ret ?x106
               case x106 =>
                exact pe_bl
             case x95 =>
              exact pss_nil
           case x91 =>
            refine' pss_cons ?x107 ?x108
            case x107 =>
             refine' ps_setLc (i := 4) (own := [("place", 5)]) (g := gName 5) (by rfl) scLawPlacesRight.nd rfl rfl (sw_true rfl rfl rfl (by decide +kernel)) ?x109 (blkOk_by (own := [("place", 5)]) (N := nLawPlacesRight) (sc := defScope sLawPlacesRight) (by decide +kernel)) (fun _ _ _ _ _ => pg_name (i := 5) scLawPlacesRight.nd rfl (Or.inl rfl)) ?x110 ?x111
             case x109 =>
              refine' pi_list ?x112
              case x112 =>
               refine' pe_revL ?x113
               case x113 =>
                refine' pe_callC c_first_places hr rfl ?x114
                case x114 =>
                 refine' pa_Subscript ?x115 ?x116
                 case x115 =>
                  exact (pe_revS (pv 0))
                 case x116 =>
                  refine' pa_Subscript ?x117 ?x118
                  case x117 =>
                   exact (pe_revS (pv 1))
                  case x118 =>
                   exact pa_nil
             case x110 =>
              intro _ _ _ _ _
              exact pts_nil
             case x111 =>
              intro _ _ _ _ _
              refine' pe_op op_sub ?x119 (pv 5)
              case x119 =>
               refine' pe_op op_sub ?x120 ?x121
               case x120 =>
                refine' pe_callB call_len_str rfl T.m_len PySem.boot_len ?x122
                case x122 =>
                 refine' pa_Name (pv 0) ?x123
                 case x123 =>
                  exact pa_nil
               case x121 =>
                exact pe_int
            case x108 =>
             refine' pss_one ?x124
             case x124 =>
              refine' ps_ret ?x125
              case x125 =>
               refine' pe_and ?x126 ?x127
               case x126 =>
                exact (pe_cmpR (op_eqD hr.units) (pv 4) (pv 3) (nomark _))
               case x127 =>
                refine' pe_one ?x128
                case x128 =>
                 refine' pe_cmpR (op_eqD hr.units) ?x129 (pv 2) (nomark _)
                 case x129 =>
                  refine' pe_callC c_first_places hr rfl ?x130
                  case x130 =>
                   refine' pa_Call ?x131 ?x132
                   case x131 =>
                    refine' pe_callC c_law_called hr rfl ?x133
                    case x133 =>
                     refine' pa_Name (pv 0) ?x134
                     case x134 =>
                      exact pa_nil
                   case x132 =>
                    refine' pa_Call ?x135 ?x136
                    case x135 =>
                     refine' pe_callC c_law_called hr rfl ?x137
                     case x137 =>
                      refine' pa_Name (pv 1) ?x138
                      case x138 =>
                       exact pa_nil
                    case x136 =>
                     exact pa_nil
  case RR =>
    have ez := len_cps z
    have ey := len_cps y
    have ey' := ey
    have z80 := small80 (n := z.length) (by omega)
    have y80 := small80 (n := y.length) (by omega)
    refine ⟨_, rfl, _, rfl, z, y, rfl, by omega, by omega, toldO fun x H1 s1 hA1 hN1 => ?_⟩
    refine ⟨_, rfl, _, rfl, z, y, rfl, by omega, by omega, toldO fun x2 H2 s2 hA2 hN2 => ?_⟩
    have s02 := s1.trans s2
    by_cases hs : y.cps.toList.Sublist z.cps.toList
    case neg =>
      have h1 : fsts z.cps.toList 0 y.cps.toList = none := by
        have := left_is4 (xs := z.cps.toList) (ys := y.cps.toList)
        rw [decide_eq_false hs] at this
        exact Option.not_isSome_iff_eq_none.mp (by rw [this]; decide)
      have h2 : lastP z.cps.toList y.cps.toList = none := by
        have := last_is4 (xs := z.cps.toList) (ys := y.cps.toList)
        rw [decide_eq_false hs] at this
        exact Option.not_isSome_iff_eq_none.mp (by rw [this]; decide)
      rw [h1] at hA1
      rw [h2] at hA2
      obtain rfl : x = .non := hA1
      obtain rfl : x2 = .non := hA2
      refine ⟨_, rfl, rfl, _, rfl, _, rfl, z, _, rfl, by omega, .inl ⟨y, rfl, by omega, s02 _ _ hT, fun H3 s3 => ?_⟩⟩
      rw [left_is4, (rowB_iff _).mpr ry, decide_eq_false hs]
      refine ⟨rfl, _, rfl, iteF ?_⟩
      have s03 := s02.trans s3
      refine ⟨_, rfl, rfl, _, rfl, _, rfl, z, _, rfl, by omega, .inl ⟨y, rfl, by omega, s03 _ _ hT, fun H4 s4 => ?_⟩⟩
      rw [left_is4, (rowB_iff _).mpr ry, decide_eq_false hs]
      refine ⟨rfl, _, rfl, iteF ?_⟩
      refine ⟨_, rfl, rfl, _, rfl, iteT ?_⟩
      exact q H4 (s03.trans s4)
    obtain ⟨ks, hk⟩ : ∃ ks, fsts z.cps.toList 0 y.cps.toList = some ks := Option.isSome_iff_exists.mp (by rw [left_is4, decide_eq_true hs])
    obtain ⟨ls, hl⟩ : ∃ ls, lastP z.cps.toList y.cps.toList = some ls := Option.isSome_iff_exists.mp (by rw [last_is4, decide_eq_true hs])
    rw [hk] at hA1
    rw [hl] at hA2
    obtain ⟨a, rfl, ha⟩ := hA1
    obtain ⟨b, rfl, hb⟩ := hA2
    obtain ⟨klen, kbd⟩ := fsts_few _ _ _ hk
    have krise := (fsts_rise4 _ _ _ _ hk).2
    have kspell := fsts_spell _ _ _ _ hk
    obtain ⟨lrise, lspell, lbd, llen⟩ := last_facts hl
    refine ⟨_, rfl, rfl, _, rfl, _, rfl, z, _, rfl, by omega, .inl ⟨y, rfl, by omega, s02 _ _ hT, fun H3 s3 => ?_⟩⟩
    rw [left_is4, (rowB_iff _).mpr ry, decide_eq_true hs]
    refine ⟨rfl, _, rfl, iteF ?_⟩
    have s03 := s02.trans s3
    refine ⟨_, rfl, rfl, _, rfl, _, rfl, z, _, rfl, by omega, .inl ⟨y, rfl, by omega, s03 _ _ hT, fun H4 s4 => ?_⟩⟩
    rw [left_is4, (rowB_iff _).mpr ry, decide_eq_true hs]
    refine ⟨rfl, _, rfl, iteF ?_⟩
    refine ⟨_, rfl, rfl, _, rfl, iteF ?_⟩
    have ha4 := s4 _ _ (s3 _ _ (s2 _ _ ha))
    have hb4 := s4 _ _ (s3 _ _ hb)
    have s04 := s03.trans s4
    refine ⟨fun σ' H' => σ' = [some (.str z), some (.str y), some (.ref a), some (.ref b), none, none, none, none] ∧ Same H4 H', ?_, ?_⟩
    · refine ⟨⟨_, rfl⟩, _, rfl, a, rfl, ⟨_, SqL.of ha4⟩, fun D nD => ?_⟩
      refine lc_list (K := K) (a := a) (xs := nInt ks) (fun i HA => Same H4 HA ∧ HA D = some (.lst (((y.cps.toList.take i).map sg).map V.str))) ?_ ?_ ?_ ?_
      · exact ⟨same_new nD _, upd_same⟩
      · rintro i HA _ ⟨sA, _⟩
        exact SqL.of (sA _ _ ha4)
      · rintro i x HA hx ⟨sA, hA⟩
        rw [List.getElem?_map] at hx
        obtain ⟨k, hk, rfl⟩ := Option.map_eq_some_iff.mp hx
        have hs1 : (ks.map fun k => z.cps.toList[k]?)[i]? = (y.cps.toList.map some)[i]? := by rw [kspell]
        rw [List.getElem?_map, List.getElem?_map, hk] at hs1
        obtain ⟨c, hc, hc2⟩ := Option.map_eq_some_iff.mp hs1.symm
        have hc2' : z.cps.toList[k]? = some c := hc2.symm
        refine ⟨rfl, ?_⟩
        refine ⟨_, rfl, _, rfl, z, _, c, rfl, rfl, z80, atI_nat hc2', ?_⟩
        have hil := (List.getElem?_eq_some_iff.mp hc).1
        refine ⟨_, hA, by rw [List.length_map, List.length_map, List.length_take]; exact small1000 (by omega), same_over sA nD, ?_⟩
        rw [upd_same, take_snoc4 hc, List.map_append, List.map_append]; rfl
      rintro HA ⟨sA, hA⟩
      rw [List.length_map, klen, List.take_length] at hA
      refine ⟨_, D, y.cps.toList.map sg, rfl, rfl, .inl (SqL.of hA), ?_, ?_⟩
      · rw [sum_sg, List.length_map]
        have l0 : (Str.ofString "").length = 0 := by decide +kernel
        rw [l0]; omega
      have ej : Txt.join (Str.ofString "") (y.cps.toList.map sg) = y := str_ext (join_sg _)
      rw [ej]
      refine ⟨_, rfl, rfl, _, rfl, ?_⟩
      rw [decide_eq_true rfl]
      refine iteF ?_
      exact ⟨rfl, sA⟩
    rintro σ' H5 ⟨rfl, sH5⟩
    have ha5 := sH5 _ _ ha4
    have hb5 := sH5 _ _ hb4
    refine ⟨fun σ' H' => σ' = [some (.str z), some (.str y), some (.ref a), some (.ref b), none, none, none, none] ∧ Same H5 H', ?_, ?_⟩
    · refine ⟨⟨_, rfl⟩, _, rfl, b, rfl, ⟨_, SqL.of hb5⟩, fun D nD => ?_⟩
      refine lc_list (K := K) (a := b) (xs := nInt ls) (fun i HA => Same H5 HA ∧ HA D = some (.lst (((y.cps.toList.take i).map sg).map V.str))) ?_ ?_ ?_ ?_
      · exact ⟨same_new nD _, upd_same⟩
      · rintro i HA _ ⟨sA, _⟩
        exact SqL.of (sA _ _ hb5)
      · rintro i x HA hx ⟨sA, hA⟩
        rw [List.getElem?_map] at hx
        obtain ⟨k, hk, rfl⟩ := Option.map_eq_some_iff.mp hx
        have hs1 : (ls.map fun k => z.cps.toList[k]?)[i]? = (y.cps.toList.map some)[i]? := by rw [lspell]
        rw [List.getElem?_map, List.getElem?_map, hk] at hs1
        obtain ⟨c, hc, hc2⟩ := Option.map_eq_some_iff.mp hs1.symm
        have hc2' : z.cps.toList[k]? = some c := hc2.symm
        refine ⟨rfl, ?_⟩
        refine ⟨_, rfl, _, rfl, z, _, c, rfl, rfl, z80, atI_nat hc2', ?_⟩
        have hil := (List.getElem?_eq_some_iff.mp hc).1
        refine ⟨_, hA, by rw [List.length_map, List.length_map, List.length_take]; exact small1000 (by omega), same_over sA nD, ?_⟩
        rw [upd_same, take_snoc4 hc, List.map_append, List.map_append]; rfl
      rintro HA ⟨sA, hA⟩
      rw [List.length_map, llen, List.take_length] at hA
      refine ⟨_, D, y.cps.toList.map sg, rfl, rfl, .inl (SqL.of hA), ?_, ?_⟩
      · rw [sum_sg, List.length_map]
        have l0 : (Str.ofString "").length = 0 := by decide +kernel
        rw [l0]; omega
      have ej : Txt.join (Str.ofString "") (y.cps.toList.map sg) = y := str_ext (join_sg _)
      rw [ej]
      refine ⟨_, rfl, rfl, _, rfl, ?_⟩
      rw [decide_eq_true rfl]
      refine iteF ?_
      exact ⟨rfl, sA⟩
    rintro σ' H6 ⟨rfl, sH6⟩
    have ha6 := sH6 _ _ ha5
    have hb6 := sH6 _ _ hb5
    refine ⟨fun σ' H' => σ' = [some (.str z), some (.str y), some (.ref a), some (.ref b), none, none, none, none] ∧ Same H6 H', ?_, ?_⟩
    · have lkz : ks.length ≤ 80 := by omega
      have llz : ls.length ≤ 80 := by omega
      refine ⟨_, rfl, _, rfl, a, ks.map (fun k : Nat => (k : Int)), rfl, ?_, by rw [List.length_map]; omega, fun l ds nl hp hn hm => ?_⟩
      · have := SqL.of (K := K) ha6
        rw [nInt_ints] at this
        exact this
      obtain rfl := set_sorted krise hp hn hm
      generalize jl61 : upd H6 l _ = H61
      have s61 := upS jl61 nl; have e61 := upE jl61
      refine ⟨_, _, Dp.ints (ns := ks.map fun k : Nat => (k : Int)) (by have := SqL.of (K := K) (s61 _ _ ha6); rw [nInt_ints] at this; exact this), Dp.ints (SqL.of e61), shaped_ints _, shaped_ints _, _, rfl, ?_⟩
      rw [eqv_list_ints, decide_eq_true rfl]
      refine iteF ?_
      refine ⟨_, rfl, _, rfl, b, ls.map (fun k : Nat => (k : Int)), rfl, ?_, by rw [List.length_map]; omega, fun l ds nl hp hn hm => ?_⟩
      · have := SqL.of (K := K) (s61 _ _ hb6)
        rw [nInt_ints] at this
        exact this
      obtain rfl := set_sorted lrise hp hn hm
      generalize jl62 : upd H61 l _ = H62
      have s62 := upS jl62 nl; have e62 := upE jl62
      refine ⟨_, _, Dp.ints (ns := ls.map fun k : Nat => (k : Int)) (by have := SqL.of (K := K) (s62 _ _ (s61 _ _ hb6)); rw [nInt_ints] at this; exact this), Dp.ints (SqL.of e62), shaped_ints _, shaped_ints _, _, rfl, ?_⟩
      rw [eqv_list_ints, decide_eq_true rfl]
      refine iteF ?_
      exact ⟨rfl, s61.trans s62⟩
    rintro σ' H7 ⟨rfl, s7⟩
    have ha7 := s7 _ _ ha6
    have hb7 := s7 _ _ hb6
    have hle := first_last hk hl
    refine ⟨fun σ' H' => σ' = [some (.str z), some (.str y), some (.ref a), some (.ref b), none, none, none, none] ∧ Same H7 H', ?_, ?_⟩
    · refine ⟨_, rfl, _, rfl, a, b, nInt ks, nInt ls, rfl, SqL.of ha7, SqL.of hb7, fun D nD => ?_⟩
      refine lc_zip (K := K) (a := a) (b := b) (xs := nInt ks) (ys := nInt ls) (fun i H8 => Same H7 H8 ∧ H8 D = some (.lst [])) ?_ ?_ ?_ ?_
      · exact ⟨same_new nD _, upd_same⟩
      · rintro i H8 _ ⟨s8, _⟩
        exact ⟨SqL.of (s8 _ _ ha7), SqL.of (s8 _ _ hb7)⟩
      · rintro i x y' U H8 ex ey2 ⟨s8, h8⟩ hU
        have sU := same_new hU (.tup [x, y'])
        rw [List.getElem?_map] at ex ey2
        obtain ⟨k, hk1, rfl⟩ := Option.map_eq_some_iff.mp ex
        obtain ⟨l, hl1, rfl⟩ := Option.map_eq_some_iff.mp ey2
        have hkl := hle.2 i k l hk1 hl1
        refine ⟨U, _, rfl, SqT.of upd_same, rfl, _, _, rfl, _, _, rfl, rfl, rfl, ?_⟩
        refine ⟨_, rfl, _, rfl, _, _, rfl, rfl, _, rfl, ?_⟩
        have e : decide ((l : Int) < (k : Int)) = false := decide_eq_false (by omega)
        refine ite2 (fun g => absurd (e.symm.trans g) (by decide)) (fun _ => ?_)
        exact ⟨s8.trans sU, sU _ _ h8⟩
      rintro H8 ⟨s8, h8⟩
      refine ⟨(by show 0 ≤ sizeLine; decide), fun l nl => ?_⟩
      have s9 := same_new nl (.lst [])
      refine ⟨_, _, Dp.ints (ns := []) (SqL.of (s9 _ _ h8)), Dp.ints (ns := []) (SqL.of upd_same), shaped_ints _, shaped_ints _, _, rfl, iteF ?_⟩
      exact ⟨rfl, s8.trans s9⟩
    rintro σ' H8 ⟨rfl, s8⟩
    have ha8 := s8 _ _ ha7
    have hb8 := s8 _ _ hb7
    have hm := lastP_mirror z.cps.toList y.cps.toList
    rw [hl] at hm
    obtain ⟨ms, hms, hmls⟩ := Option.map_eq_some_iff.mp hm.symm
    have lrz : (revS z).length = z.length := revS_length z
    have lry : (revS y).length = y.length := revS_length y
    refine ⟨_, rfl, z, rfl, z80, _, rfl, y, rfl, y80, _, _, rfl, by omega, by omega, toldO fun x9 H9 s9 hA9 hN9 => ?_⟩
    rw [rev_cps, rev_cps, hms] at hA9
    obtain ⟨c, rfl, hc9⟩ := hA9
    obtain ⟨mlen, mbd⟩ := fsts_few _ _ _ hms
    rw [List.length_reverse] at mlen mbd
    refine ⟨c, nInt ms, rfl, SqL.of hc9, fun R nR => ?_⟩
    generalize jR : upd H9 R _ = HR
    have sR := upS jR nR; have eR := upE jR
    refine ⟨R, rfl, ⟨_, SqL.of eR⟩, fun D nD => ?_⟩
    have hls : ls = ms.reverse.map fun k => z.cps.toList.length - 1 - k := by rw [← hmls, List.map_reverse]
    have ls80 : ls.length ≤ 80 := by omega
    refine lc_list (K := K) (a := R) (xs := (nInt ms).reverse) (fun i HA => Same HR HA ∧ HA D = some (.lst (nInt (ls.take i)))) ?_ ?_ ?_ ?_
    · exact ⟨same_new nD _, upd_same⟩
    · rintro i HA _ ⟨sA, _⟩
      exact SqL.of (sA _ _ eR)
    · rintro i x HA hx ⟨sA, hA⟩
      have hx' : ((ms.reverse.map fun k : Nat => V.int (k : Nat)))[i]? = some x := by rw [List.map_reverse]; exact hx
      rw [List.getElem?_map] at hx'
      obtain ⟨k, hk1, rfl⟩ := Option.map_eq_some_iff.mp hx'
      have hkb := mbd k (List.mem_reverse.mp (List.mem_of_getElem? hk1))
      have hli : ls[i]? = some (z.cps.toList.length - 1 - k) := by rw [hls, List.getElem?_map, hk1]; rfl
      refine ⟨rfl, ?_⟩
      refine ⟨_, rfl, z, rfl, z80, _, _, rfl, rfl, _, rfl, _, _, rfl, rfl, ?_⟩
      refine ⟨_, hA, by rw [List.length_map, List.length_take]; exact small1000 (by omega), same_over sA nD, ?_⟩
      rw [upd_same, take_snoc4 hli]
      have ev : V.int ((z.length : Int) - 1 - (k : Nat)) = V.int ((z.cps.toList.length - 1 - k : Nat) : Int) := congrArg V.int (by omega)
      show some (HO.lst (nInt (ls.take i) ++ [V.int ((z.length : Int) - 1 - (k : Nat))])) = _
      rw [ev, nInt_snoc]
    rintro HA ⟨sA, hA⟩
    have eml : (nInt ms).reverse.length = ls.length := by rw [List.length_reverse, List.length_map, hls, List.length_map, List.length_reverse]
    rw [eml, List.take_length] at hA
    have s8A := s9.trans (sR.trans sA)
    have hbA := s8A _ _ hb8
    have haA := s8A _ _ ha8
    have intL : ∀ {H : Hp} {b : Addr} {ns : List Nat}, H b = some (.lst (nInt ns)) → Dp K H (.ref b) (.list ((ns.map fun k : Nat => (k : Int)).map PyData.int)) := fun h => Dp.ints (by have := SqL.of (K := K) h; rw [nInt_ints] at this; exact this)
    refine ⟨_, rfl, _, rfl, _, _, intL hA, intL hbA, shaped_ints _, shaped_ints _, ?_⟩
    rw [eqv_list_ints, decide_eq_true rfl]
    refine ⟨_, rfl, iteT ?_⟩
    refine ⟨_, rfl, z, rfl, rz, by omega, fun u HB eu sB => ?_⟩
    refine ⟨_, rfl, y, rfl, ry, by omega, fun v HC ev sC => ?_⟩
    have lu : u.length = z.length := by rw [len_cps, eu, List.length_map, ez]
    have lv : v.length = y.length := by rw [len_cps, ev, List.length_map, ey]
    refine ⟨u, v, rfl, by omega, by omega, toldO fun xD HD sD hAD hND => ?_⟩
    rw [eu, ev, fsts_called (P := fun c => 97 ≤ c ∧ c ≤ 122) (fun _ _ => nextL_inj) rz _ 0 ry, hk] at hAD
    obtain ⟨d, rfl, hd⟩ := hAD
    have sAD := sB.trans (sC.trans sD)
    refine ⟨_, rfl, _, _, intL hd, intL (sAD _ _ haA), shaped_ints _, shaped_ints _, ?_⟩
    rw [eqv_list_ints, decide_eq_true rfl]
    exact q HD (s04.trans (sH5.trans (sH6.trans (s7.trans (s8.trans (s8A.trans sAD))))))
end
end Lv
set_option Elab.async false
set_option linter.all false
set_option maxRecDepth 100000
set_option maxHeartbeats 8000000
namespace L2
open PySem
theorem tabNe4 {H : Hp} {p t : Addr} (hH : HandAt H p) (h : H t = some (.ext (TabP t))) : t ≠ p := fun e => by
  obtain ⟨a, b, hp, _⟩ := hH
  rw [e, hp] at h
  cases h
end L2
namespace Lv
open PySem L2
section
variable {P : Program} {w : World} {K : PySem.W.Frag} {mg : Str → Option Value} {base : Heap} {f : Addr} {fd : FuncData}
abbrev sLawLeftRight : Stmt := top 16
def nLawLeftRight : List Str := ["hand", "row", "other", "inner", "at", "place", "more", "some"]
theorem scLawLeftRight : FnScope nLawLeftRight ["hand", "row", "other"] (defScope sLawLeftRight) := ⟨rfl, rfl, rfl, by decide +kernel, rfl, by decide +kernel, by decide +kernel⟩
theorem ok_leftR4 (T : Glb mg) {t1 : Addr} (c_law_draw : Callee P w K mg base 1 "_law_draw" ["hand", "limit"] spDraw) (c_law_part : Callee P w K mg base 2 "_law_part" ["hand", "row"] spPartS) (c_is_left : Callee P w K mg base 2 "is_left" ["row", "thing"] (spIsLeft2 K t1)) (c_is_row : Callee P w K mg base 1 "is_row" ["thing"] (spIsRow2 K t1)) (F : Fun K "_law_left_right" "_law_left_right" sLawLeftRight f fd) : FnOk P w K mg base CX0 3 f fd ["hand", "row", "other"] (spLeftR4 t1) := by
  refine F.ok scLawLeftRight (fun vs H Q E h => ?_) (fun cdv A outer s H vs Q E hr h => ?_)
  · obtain ⟨p, z, y, rfl, _⟩ := h
    rfl
  obtain ⟨p, z, y, rfl, hH, rz, ry, lz, ly, hT, q⟩ := h
  have hu := hu_of hr
  refine' ⟨_, ?TT, ?RR⟩
  case TT =>
    refine' pss_cons ?x139 ?x140
    case x139 =>
     refine' ps_if ?x141 ?x142 ?x143
     case x141 =>
      refine' pt_cmpR op_isnotB ?x144 ?x145 (nomark _)
      case x144 =>
       refine' pe_callC c_is_left hr rfl ?x146
       case x146 =>
        refine' pa_Name (pv 1) ?x147
        case x147 =>
         refine' pa_Name (pv 2) ?x148
         case x148 =>
          exact pa_nil
      case x145 =>
       exact pe_bl
     case x142 =>
      refine' pss_one ?x149
      case x149 =>
       refine' ps_ret ?x150
       case x150 =>
        refine' pe_or ?x151 ?x152
        case x151 =>
         refine' pe_cmpR op_le ?x153 ?x154 (nomark _)
         case x153 =>
          refine' pe_callB call_len_str rfl T.m_len PySem.boot_len ?x155
          case x155 =>
           refine' pa_Name (pv 2) ?x156
           case x156 =>
            exact pa_nil
         case x154 =>
          refine' pe_callB call_len_str rfl T.m_len PySem.boot_len ?x157
          case x157 =>
           refine' pa_Name (pv 1) ?x158
           case x158 =>
            exact pa_nil
        case x152 =>
         refine' pe_one ?x159
         case x159 =>
          refine' pe_cmpR op_isB ?x160 ?x161 (nomark _)
          case x160 =>
           refine' pe_callC c_is_left hr rfl ?x162
           case x162 =>
            refine' pa_Name (pv 1) ?x163
            case x163 =>
             refine' pa_Name (pv 2) ?x164
             case x164 =>
              exact pa_nil
          case x161 =>
           exact pe_bl
     case x143 =>
      exact pss_nil
    case x140 =>
     refine' pss_cons ?x165 ?x166
     case x165 =>
      refine' ps_if ?x167 ?x168 ?x169
      case x167 =>
       refine' PW.pt ?x170
       case x170 =>
        refine' pw_or ?x171 ?x172
        case x171 =>
         refine' pt_cmpR op_isnotB ?x173 ?x174 (nomark _)
         case x173 =>
          refine' pe_callC c_is_row hr rfl ?x175
          case x175 =>
           refine' pa_Name (pv 2) ?x176
           case x176 =>
            exact pa_nil
         case x174 =>
          exact pe_bl
        case x172 =>
         refine' pw_or ?x177 ?x178
         case x177 =>
          refine' pt_cmpR op_gt ?x179 ?x180 (nomark _)
          case x179 =>
           refine' pe_callB call_len_str rfl T.m_len PySem.boot_len ?x181
           case x181 =>
            refine' pa_Name (pv 2) ?x182
            case x182 =>
             exact pa_nil
          case x180 =>
           refine' pe_callB call_len_str rfl T.m_len PySem.boot_len ?x183
           case x183 =>
            refine' pa_Name (pv 1) ?x184
            case x184 =>
             exact pa_nil
         case x178 =>
          refine' pw_or1 ?x185
          case x185 =>
           refine' pt_cut ?x186
           case x186 =>
            refine' PW.pt ?x187
            case x187 =>
             refine' pw_and ?x188 ?x189
             case x188 =>
              refine' pt_cmpR op_eq ?x190 ?x191 (nomark _)
              case x190 =>
               refine' pe_callB call_len_str rfl T.m_len PySem.boot_len ?x192
               case x192 =>
                refine' pa_Name (pv 2) ?x193
                case x193 =>
                 exact pa_nil
              case x191 =>
               refine' pe_callB call_len_str rfl T.m_len PySem.boot_len ?x194
               case x194 =>
                refine' pa_Name (pv 1) ?x195
                case x195 =>
                 exact pa_nil
             case x189 =>
              refine' pw_and1 ?x196
              case x196 =>
               exact (pt_cmpR op_ne (pv 2) (pv 1) (nomark _))
      case x168 =>
       refine' pss_one ?x197
       case x197 =>
        refine' ps_ret ?x198
        case x198 =>
         exact pe_bl
      case x169 =>
       exact pss_nil
     case x166 =>
      refine' pss_cons ?x199 ?x200
      case x199 =>
       refine' ps_set (i := 3) scLawLeftRight.nd rfl (Or.inl rfl) ?x201
       case x201 =>
        refine' pe_callC c_law_part hr rfl ?x202
        case x202 =>
         refine' pa_Name (pv 0) ?x203
         case x203 =>
          refine' pa_Name (pv 2) ?x204
          case x204 =>
           exact pa_nil
      case x200 =>
       refine' pss_cons ?x205 ?x206
       case x205 =>
        refine' ps_set (i := 4) scLawLeftRight.nd rfl (Or.inl rfl) ?x207
        case x207 =>
         refine' pe_callC c_law_draw hr rfl ?x208
         case x208 =>
          refine' pa_Name (pv 0) ?x209
          case x209 =>
           refine' pa_BinOp ?x210 ?x211
           case x210 =>
            refine' pe_op op_add ?x212 ?x213
            case x212 =>
             refine' pe_callB call_len_str rfl T.m_len PySem.boot_len ?x214
             case x214 =>
              refine' pa_Name (pv 2) ?x215
              case x215 =>
               exact pa_nil
            case x213 =>
             exact pe_int
           case x211 =>
            exact pa_nil
       case x206 =>
        refine' pss_cons ?x216 ?x217
        case x216 =>
         refine' ps_if ?x218 ?x219 ?x220
         case x218 =>
          refine' pt_cmpR (op_neD hr.units) ?x221 ?x222 (nomark _)
          case x221 =>
           refine' pe_lc (own := [("some", 7)]) (g := gName 7) (by rfl) scLawLeftRight.nd ?x223 (blkOk_by (own := [("some", 7)]) (N := nLawLeftRight) (sc := defScope sLawLeftRight) (by decide +kernel)) (fun _ _ _ _ _ => pg_name (i := 7) scLawLeftRight.nd rfl (Or.inl rfl)) ?x224 (fun _ _ _ _ _ => (pv 7))
           case x223 =>
            refine' pi_tup ?x225
            case x225 =>
             refine' pe_tup ?x226
             case x226 =>
              refine' pa_Name (pv 3) ?x227
              case x227 =>
               refine' pa_Subscript ?x228 ?x229
               case x228 =>
                exact (pe_slice sl_str (pv 2) po_none (po_some (pv 4)))
               case x229 =>
                refine' pa_Subscript ?x230 ?x231
                case x230 =>
                 exact (pe_slice sl_str (pv 2) (po_some (pv 4)) po_none)
                case x231 =>
                 exact pa_nil
           case x224 =>
            intro _ _ _ _ _
            exact pts_one (pt_cmpR op_isnotB (pe_callC c_is_left hr rfl (by exact pa_Name (pv 1) (by exact pa_Name (pv 7) pa_nil))) pe_bl (nomark _))
          case x222 =>
           refine' pe_lst ?x232
           case x232 =>
            exact pa_nil
         case x219 =>
          refine' pss_one ?x233
          case x233 =>
           refine' ps_ret ?x234
           case x234 =>
            exact pe_bl
         case x220 =>
          exact pss_nil
        case x217 =>
         refine' pss_cons ?x235 ?x236
         case x235 =>
          refine' ps_set (i := 5) scLawLeftRight.nd rfl (Or.inl rfl) ?x237
          case x237 =>
           refine' pe_callC c_law_draw hr rfl ?x238
           case x238 =>
            refine' pa_Name (pv 0) ?x239
            case x239 =>
             refine' pa_BinOp ?x240 ?x241
             case x240 =>
              refine' pe_op op_add ?x242 ?x243
              case x242 =>
               refine' pe_callB call_len_str rfl T.m_len PySem.boot_len ?x244
               case x244 =>
                refine' pa_Name (pv 1) ?x245
                case x245 =>
                 exact pa_nil
              case x243 =>
               exact pe_int
             case x241 =>
              exact pa_nil
         case x236 =>
          refine' pss_cons ?x246 ?x247
          case x246 =>
           refine' ps_set (i := 6) scLawLeftRight.nd rfl (Or.inl rfl) ?x248
           case x248 =>
            refine' pe_slice sl_str ?x249 po_none (po_some pe_int)
            case x249 =>
             refine' pe_op op_add_str ?x250 ?x251
             case x250 =>
              refine' pe_op op_add_str ?x252 ?x253
              case x252 =>
               exact (pe_slice sl_str (pv 1) po_none (po_some (pv 5)))
              case x253 =>
               exact pe_str
             case x251 =>
              exact (pe_slice sl_str (pv 1) (po_some (pv 5)) po_none)
          case x247 =>
           refine' pss_one ?x254
           case x254 =>
            refine' ps_ret ?x255
            case x255 =>
             refine' pe_or ?x256 ?x257
             case x256 =>
              refine' pe_cmpR op_gt ?x258 ?x259 (nomark _)
              case x258 =>
               refine' pe_callB call_len_str rfl T.m_len PySem.boot_len ?x260
               case x260 =>
                refine' pa_Name (pv 1) ?x261
                case x261 =>
                 exact pa_nil
              case x259 =>
               exact pe_int
             case x257 =>
              refine' pe_one ?x262
              case x262 =>
               refine' pe_and ?x263 ?x264
               case x263 =>
                refine' pe_cmpR op_isB ?x265 ?x266 (nomark _)
                case x265 =>
                 refine' pe_callC c_is_left hr rfl ?x267
                 case x267 =>
                  refine' pa_Name (pv 6) ?x268
                  case x268 =>
                   refine' pa_Name (pv 2) ?x269
                   case x269 =>
                    exact pa_nil
                case x266 =>
                 exact pe_bl
               case x264 =>
                refine' pe_one ?x270
                case x270 =>
                 refine' pe_cmpR op_isB ?x271 ?x272 (nomark _)
                 case x271 =>
                  refine' pe_callC c_is_left hr rfl ?x273
                  case x273 =>
                   refine' pa_Name (pv 6) ?x274
                   case x274 =>
                    refine' pa_Name (pv 1) ?x275
                    case x275 =>
                     exact pa_nil
                 case x272 =>
                  exact pe_bl
  case RR =>
    have ez := len_cps z
    have ey := len_cps y
    have z80 := small80 (n := z.length) (by omega)
    have y80 := small80 (n := y.length) (by omega)
    have n1 : t1 ≠ p := tabNe4 hH hT
    refine ⟨_, rfl, _, rfl, z, _, rfl, by omega, .inl ⟨y, rfl, by omega, hT, fun H1 s1 => ?_⟩⟩
    rw [left_is4, (rowB_iff _).mpr ry, Bool.true_and]
    have hT1 := s1 _ _ hT
    have hH1 := hH.same s1
    by_cases hs : y.cps.toList.Sublist z.cps.toList
    case neg =>
      rw [decide_eq_false hs]
      refine ⟨_, _, rfl, rfl, _, rfl, iteT ?_⟩
      refine ⟨_, rfl, y, rfl, y80, _, rfl, z, rfl, z80, _, _, rfl, rfl, _, rfl, ?_⟩
      refine ite2 (fun _ => ?_) (fun _ => ?_)
      · exact q H1 hH1 (s1.kp p)
      · refine ⟨_, rfl, _, rfl, z, _, rfl, by omega, .inl ⟨y, rfl, by omega, hT1, fun H2 s2 => ?_⟩⟩
        rw [left_is4, decide_eq_false hs, Bool.and_false]
        refine ⟨_, _, rfl, rfl, ?_⟩
        exact q H2 (hH1.same s2) ((s1.trans s2).kp p)
    rw [decide_eq_true hs]
    refine ⟨_, _, rfl, rfl, _, rfl, iteF ?_⟩
    have hle := hs.length_le
    rw [← ez, ← ey] at hle
    refine ⟨_, rfl, _, rfl, .inl ⟨y, rfl, hT1, ?_⟩⟩
    rw [(rowB_iff _).mpr ry]
    refine ⟨_, _, rfl, rfl, _, rfl, iteF ?_⟩
    refine ⟨_, rfl, y, rfl, y80, _, rfl, z, rfl, z80, _, _, rfl, rfl, _, rfl, ?_⟩
    rw [decide_eq_false (show ¬ ((z.length : Int) < (y.length : Int)) by omega)]
    refine iteF ?_
    refine ⟨fun b H' => b = false ∧ Same H1 H', ?_, ?_⟩
    · refine ⟨_, rfl, y, rfl, y80, _, rfl, z, rfl, z80, rfl, _, rfl, ?_⟩
      have hyz : (y.length : Int) = (z.length : Int) → y = z := fun h => str_ext (hs.eq_of_length (by omega))
      refine ite2 (fun g => ?_) (fun _ => ?_)
      · have g' := hyz (V.int.inj (of_decide_eq_true g))
        refine ⟨_, rfl, _, rfl, rfl, _, rfl, ?_⟩
        rw [decide_eq_true (show V.str y = V.str z from congrArg V.str g')]
        exact ⟨rfl, Same.refl _⟩
      · exact ⟨rfl, Same.refl _⟩
    rintro b H2 ⟨rfl, s2⟩
    refine iteF ?_
    have hH2 := hH1.same s2
    have hT2 := s2 _ _ hT1
    refine ⟨_, rfl, _, rfl, p, y, rfl, hH2, ry, by omega, fun x H3 rx hx hH3 k3 => ?_⟩
    have hT3 := k3 _ _ hT2 n1
    refine ⟨_, rfl, _, rfl, y, rfl, y80, _, _, rfl, rfl, p, _, rfl, hH3, by omega, by omega, fun at_ H4 a0 a1 hH4 k4 => ?_⟩
    have hT4 := k4 _ _ hT3 n1
    obtain ⟨n, rfl⟩ : ∃ n : Nat, at_ = (n : Int) := ⟨at_.toNat, by omega⟩
    have c1 : (cutS y none (some (n : Int))).cps.toList = y.cps.toList.take n := by rw [cut_to _ (by omega)]; congr 1
    have c2 : (cutS y (some (n : Int)) none).cps.toList = y.cps.toList.drop n := by rw [cut_from _ (by omega)]; congr 1
    refine ⟨_, rfl, _, rfl, _, rfl, _, rfl, y, rfl, y80, _, rfl, _, rfl, _, rfl, y, rfl, y80, (by show 3 ≤ sizeLine; decide), fun U nU => ?_⟩
    generalize jU : upd H4 U _ = H5
    have s5 := upS jU nU; have e5 := upE jU
    have hT5 := s5 _ _ hT4
    refine ⟨U, rfl, ⟨_, SqT.of e5⟩, fun D nD => ?_⟩
    refine lc_tup (K := K) (a := U) (xs := [.str x, .str (cutS y none (some (n : Int))), .str (cutS y (some (n : Int)) none)]) (fun i HA => Same H5 HA ∧ HA D = some (.lst [])) ?_ ?_ ?_ ?_
    · exact ⟨same_new nD _, upd_same⟩
    · rintro i HA _ ⟨sA, _⟩
      exact SqT.of (sA _ _ e5)
    · rintro i v HA hv ⟨sA, hA⟩
      obtain ⟨u, rfl, hu1⟩ : ∃ u : Str, v = .str u ∧ u.cps.toList.Sublist y.cps.toList := by
        have hm := List.mem_of_getElem? hv
        simp only [List.mem_cons, List.not_mem_nil, or_false] at hm
        rcases hm with rfl | rfl | rfl
        · exact ⟨_, rfl, hx⟩
        · exact ⟨_, rfl, by rw [c1]; exact List.take_sublist _ _⟩
        · exact ⟨_, rfl, by rw [c2]; exact List.drop_sublist _ _⟩
      have ru : IsRow u := fun c hc => ry c (hu1.subset hc)
      have lu := hu1.length_le
      rw [← len_cps, ← ey] at lu
      refine ⟨rfl, ?_⟩
      refine ⟨_, rfl, _, rfl, z, _, rfl, by omega, .inl ⟨u, rfl, by omega, sA _ _ hT5, fun HB sB => ?_⟩⟩
      rw [left_is4, decide_eq_true (hu1.trans hs), (rowB_iff _).mpr ru]
      refine ⟨_, _, rfl, rfl, _, rfl, iteF ?_⟩
      exact ⟨sA.trans sB, sB _ _ hA⟩
    rintro HA ⟨sA, hA⟩
    refine ⟨(by show 0 ≤ sizeLine; decide), fun N nN => ?_⟩
    generalize jN : upd HA N _ = HB
    have sB := upS jN nN; have eB := upE jN
    refine ⟨_, _, Dp.ints (ns := []) (SqL.of (sB _ _ hA)), Dp.ints (ns := []) (SqL.of eB), shaped_ints _, shaped_ints _, _, rfl, iteF ?_⟩
    have s4B := s5.trans (sA.trans sB)
    have hHB := hH4.same s4B
    have hTB := s4B _ _ hT4
    have k0B : Kp p H HB := ((s1.trans s2).kp p).trans (k3.trans (k4.trans (s4B.kp p)))
    refine ⟨_, rfl, _, rfl, z, rfl, z80, _, _, rfl, rfl, p, _, rfl, hHB, by omega, by omega, fun pl HC p0 p1 hHC kC => ?_⟩
    have hTC := kC _ _ hTB n1
    obtain ⟨m, rfl⟩ : ∃ m : Nat, pl = (m : Int) := ⟨pl.toNat, by omega⟩
    have d1 : (cutS z none (some (m : Int))).cps.toList = z.cps.toList.take m := by rw [cut_to _ (by omega)]; congr 1
    have d2 : (cutS z (some (m : Int)) none).cps.toList = z.cps.toList.drop m := by rw [cut_from _ (by omega)]; congr 1
    have l1 : (cutS z none (some (m : Int))).length = m := by rw [len_cps, d1, List.length_take]; omega
    have l2 : (cutS z (some (m : Int)) none).length = z.length - m := by rw [len_cps, d2, List.length_drop]; omega
    have lk : (Str.ofString "k").length = 1 := by decide +kernel
    refine ⟨_, rfl, _, rfl, _, rfl, z, rfl, z80, _, _, rfl, rfl, by rw [l1, lk]; exact small80 (by omega), ?_⟩
    refine ⟨_, rfl, _, rfl, _, rfl, z, rfl, z80, _, _, rfl, rfl, by rw [lenApp, l1, l2, lk]; exact small80 (by omega), ?_⟩
    obtain ⟨u, hu_⟩ : ∃ u, u = cutS z none (some (m : Int)) ++ Str.ofString "k" ++ cutS z (some (m : Int)) none := ⟨_, rfl⟩
    have lu : u.length = z.length + 1 := by rw [hu_, lenApp, lenApp, l1, l2, lk]; omega
    rw [← hu_]
    refine ⟨_, rfl, u, rfl, small80 (by omega), ?_⟩
    refine ⟨_, rfl, z, rfl, z80, _, _, rfl, rfl, _, rfl, ?_⟩
    have k0C := k0B.trans kC
    refine ite2 (fun _ => ?_) (fun g => ?_)
    · exact q HC hHC k0C
    have g' : ¬ (79 : Int) < (z.length : Int) := of_decide_eq_false (Bool.eq_false_iff.mpr g)
    have eu : (cutS u none (some 80)).cps.toList = u.cps.toList := by rw [cut_to _ (by decide), List.take_of_length_le (by rw [← len_cps]; show _ ≤ 80; omega)]
    have e2 : cutS u none (some 80) = u := str_ext eu
    rw [e2]
    have cu : u.cps.toList = z.cps.toList.take m ++ (Str.ofString "k").cps.toList ++ z.cps.toList.drop m := by rw [hu_, app_cps, app_cps, d1, d2]
    have hzu : z.cps.toList.Sublist u.cps.toList := by
      rw [cu]
      have h : (z.cps.toList.take m ++ z.cps.toList.drop m).Sublist (z.cps.toList.take m ++ (Str.ofString "k").cps.toList ++ z.cps.toList.drop m) := List.Sublist.append (List.sublist_append_left _ _) (List.Sublist.refl _)
      rwa [List.take_append_drop] at h
    refine ⟨_, rfl, _, rfl, u, _, rfl, by omega, .inl ⟨y, rfl, by omega, hTC, fun HD sD => ?_⟩⟩
    rw [left_is4, decide_eq_true (hs.trans hzu), (rowB_iff _).mpr ry]
    refine ⟨_, _, rfl, rfl, _, rfl, iteT ?_⟩
    refine ⟨_, rfl, _, rfl, u, _, rfl, by omega, .inl ⟨z, rfl, by omega, sD _ _ hTC, fun HE sE => ?_⟩⟩
    rw [left_is4, decide_eq_true hzu, (rowB_iff _).mpr rz]
    refine ⟨_, _, rfl, rfl, ?_⟩
    have sCE := sD.trans sE
    exact q HE (hHC.same sCE) (k0C.trans (sCE.kp p))
end
end Lv
set_option Elab.async false
set_option linter.all false
set_option maxRecDepth 100000
set_option maxHeartbeats 8000000
namespace Lv
open PySem L2
section
variable {P : Program} {w : World} {K : PySem.W.Frag} {mg : Str → Option Value} {base : Heap} {f : Addr} {fd : FuncData}
abbrev sLaw : Stmt := top 17
def nLaw : List Str := ["script", "k", "cell", "hand", "row", "other"]
theorem scLaw : FnScope nLaw ["script"] (defScope sLaw) := ⟨rfl, rfl, rfl, by decide +kernel, rfl, by decide +kernel, by decide +kernel⟩
theorem ok_law (T : Glb mg) {t1 : Addr} (c_law_draw : Callee P w K mg base 1 "_law_draw" ["hand", "limit"] spDraw) (c_law_hand : Callee P w K mg base 1 "_law_hand" ["cell", "k"] spHand) (c_law_cells : Callee P w K mg base 1 "_law_cells" ["script", "many"] (spCells K)) (c_law_great : Callee P w K mg base 1 "_law_great" ["script"] (spGreat K)) (c_law_row : Callee P w K mg base 2 "_law_row" ["hand", "many"] spRow) (c_law_size : Callee P w K mg base 2 "_law_size" ["hand", "most", "long"] spSize) (c_law_part : Callee P w K mg base 2 "_law_part" ["hand", "row"] spPartS) (c_law_other : Callee P w K mg base 3 "_law_other" ["hand", "row"] spOther) (c_law_places_right : Callee P w K mg base 3 "_law_places_right" ["row", "other"] (spPlaces4 t1)) (c_law_left_right : Callee P w K mg base 3 "_law_left_right" ["hand", "row", "other"] (spLeftR4 t1)) (c_is_left : Callee P w K mg base 2 "is_left" ["row", "thing"] (spIsLeft2 K t1)) (F : Fun K "law" "law" sLaw f fd) : FnOk P w K mg base CX0 5 f fd ["script"] (spLawT K [t1]) := by
  refine F.ok scLaw (fun vs H Q E h => ?_) (fun cdv A outer s H vs Q E hr h => ?_)
  · obtain ⟨a, ns, rfl, _⟩ := h
    rfl
  obtain ⟨a, ns, rfl, hS, h63, hO, hT, q⟩ := h
  have hu := hu_of hr
  refine' ⟨_, ?TT, ?RR⟩
  case TT =>
    refine' pss_cons ?x276 ?x277
    case x276 =>
     refine' ps_for PassesOwn.never rfl ?x278 (pg_tup rfl (pgs_cons (pg_name (i := 1) scLaw.nd rfl (Or.inl rfl)) (pgs_cons (pg_name (i := 2) scLaw.nd rfl (Or.inl rfl)) pgs_nil))) ?x279
     case x278 =>
      refine' pi_list ?x280
      case x280 =>
       refine' pe_callC c_law_cells hr rfl ?x281
       case x281 =>
        refine' pa_Name (pv 0) ?x282
        case x282 =>
         refine' pa_Const ?x283 ?x284
         case x283 =>
          exact pe_int
         case x284 =>
          exact pa_nil
     case x279 =>
      refine' pss_cons ?x285 ?x286
      case x285 =>
       refine' ps_set (i := 3) scLaw.nd rfl (Or.inl rfl) ?x287
       case x287 =>
        refine' pe_callC c_law_hand hr rfl ?x288
        case x288 =>
         refine' pa_Name (pv 2) ?x289
         case x289 =>
          refine' pa_Name (pv 1) ?x290
          case x290 =>
           exact pa_nil
      case x286 =>
       refine' pss_cons ?x291 ?x292
       case x291 =>
        refine' ps_set (i := 4) scLaw.nd rfl (Or.inl rfl) ?x293
        case x293 =>
         refine' pe_callC c_law_row hr rfl ?x294
         case x294 =>
          refine' pa_Name (pv 3) ?x295
          case x295 =>
           refine' pa_Call ?x296 ?x297
           case x296 =>
            refine' pe_callC c_law_size hr rfl ?x298
            case x298 =>
             refine' pa_Name (pv 3) ?x299
             case x299 =>
              refine' pa_Const ?x300 ?x301
              case x300 =>
               exact pe_int
              case x301 =>
               refine' pa_BoolOp ?x302 ?x303
               case x302 =>
                refine' pe_cut ?x304
                case x304 =>
                 refine' pe_and ?x305 ?x306
                 case x305 =>
                  refine' pe_cmpR op_eq (pv 1) ?x307 (nomark _)
                  case x307 =>
                   exact pe_int
                 case x306 =>
                  refine' pe_one ?x308
                  case x308 =>
                   refine' pe_callC c_law_great hr rfl ?x309
                   case x309 =>
                    refine' pa_Name (pv 0) ?x310
                    case x310 =>
                     exact pa_nil
               case x303 =>
                exact pa_nil
           case x297 =>
            exact pa_nil
       case x292 =>
        refine' pss_cons ?x311 ?x312
        case x311 =>
         refine' ps_for PassesOwn.never rfl ?x313 (pg_name (i := 5) scLaw.nd rfl (Or.inl rfl)) ?x314
         case x313 =>
          refine' pi_list ?x315
          case x315 =>
           refine' pe_lst ?x316
           case x316 =>
            refine' pa_Call ?x317 ?x318
            case x317 =>
             refine' pe_callC c_law_other hr rfl ?x319
             case x319 =>
              refine' pa_Name (pv 3) ?x320
              case x320 =>
               refine' pa_Name (pv 4) ?x321
               case x321 =>
                exact pa_nil
            case x318 =>
             refine' pa_Call ?x322 ?x323
             case x322 =>
              refine' pe_callC c_law_part hr rfl ?x324
              case x324 =>
               refine' pa_Name (pv 3) ?x325
               case x325 =>
                refine' pa_Name (pv 4) ?x326
                case x326 =>
                 exact pa_nil
             case x323 =>
              exact pa_nil
         case x314 =>
          refine' pss_one ?x327
          case x327 =>
           refine' ps_if ?x328 ?x329 ?x330
           case x328 =>
            refine' PW.pt ?x331
            case x331 =>
             refine' pw_or ?x332 ?x333
             case x332 =>
              refine' pt_not ?x334
              case x334 =>
               refine' pt_val ?x335
               case x335 =>
                refine' pe_callC c_law_places_right hr rfl ?x336
                case x336 =>
                 refine' pa_Name (pv 4) ?x337
                 case x337 =>
                  refine' pa_Name (pv 5) ?x338
                  case x338 =>
                   exact pa_nil
             case x333 =>
              refine' pw_or1 ?x339
              case x339 =>
               refine' pt_not ?x340
               case x340 =>
                refine' pt_val ?x341
                case x341 =>
                 refine' pe_callC c_law_left_right hr rfl ?x342
                 case x342 =>
                  refine' pa_Name (pv 3) ?x343
                  case x343 =>
                   refine' pa_Name (pv 4) ?x344
                   case x344 =>
                    refine' pa_Name (pv 5) ?x345
                    case x345 =>
                     exact pa_nil
           case x329 =>
            refine' pss_one ?x346
            case x346 =>
             refine' ps_ret ?x347
             case x347 =>
              exact pe_bl
           case x330 =>
            exact pss_nil
        case x312 =>
         refine' pss_one ?x348
         case x348 =>
          refine' ps_if ?x349 ?x350 ?x351
          case x349 =>
           refine' PW.pt ?x352
           case x352 =>
            refine' pw_or ?x353 ?x354
            case x353 =>
             refine' pt_cmpR op_isnotB ?x355 ?x356 (nomark _)
             case x355 =>
              refine' pe_callC c_is_left hr rfl ?x357
              case x357 =>
               refine' pa_Name (pv 4) ?x358
               case x358 =>
                refine' pa_Name (pv 4) ?x359
                case x359 =>
                 exact pa_nil
             case x356 =>
              exact pe_bl
            case x354 =>
             refine' pw_or1 ?x360
             case x360 =>
              refine' pt_cmpR op_isnotB ?x361 ?x362 (nomark _)
              case x361 =>
               refine' pe_callC c_is_left hr rfl ?x363
               case x363 =>
                refine' pa_Name (pv 4) ?x364
                case x364 =>
                 refine' pa_Const ?x365 ?x366
                 case x365 =>
                  exact pe_str
                 case x366 =>
                  exact pa_nil
              case x362 =>
               exact pe_bl
          case x350 =>
           refine' pss_one ?x367
           case x367 =>
            refine' ps_ret ?x368
            case x368 =>
             exact pe_bl
          case x351 =>
           exact pss_nil
    case x277 =>
     refine' pss_one ?x369
     case x369 =>
      refine' ps_ret ?x370
      case x370 =>
       exact pe_bl
  case RR =>
    have hS0 := Scr.ofT hS hO
    refine ⟨_, rfl, a, ns, 20, rfl, hS, h63, by decide, fun l ts H0 s0 nl hl htl hts => ?_⟩
    have hS1 := hS0.same s0
    have hP0 : H0 t1 = some (.ext (TabP t1)) := s0 _ _ (hT t1 List.mem_cons_self)
    have fin_ : ∀ H' : Hp, H' t1 = some (.ext (TabP t1)) → Q (.bl true) H' := fun H' h => q H' fun P hP => by rw [List.mem_singleton.mp hP]; exact h
    refine ⟨l, rfl, ⟨_, SqL.of hl⟩, for_list (K := K) (a := l) (xs := ts.map V.ref) (fun i σ H1 => Same H0 H1 ∧ ∃ v1 v2 v3 v4 v5 : Option V, σ = [some (.ref a), v1, v2, v3, v4, v5]) ?_ ?_ ?_ ?_⟩
    · exact ⟨Same.refl _, none, none, none, none, none, rfl⟩
    · rintro i σ H1 hi ⟨sm, _⟩
      exact SqL.of (sm _ _ hl)
    · rintro i y σ H1 hi ⟨sm, v1, v2, v3, v4, v5, rfl⟩
      rw [List.getElem?_map] at hi
      obtain ⟨t, ht, rfl⟩ := Option.map_eq_some_iff.mp hi
      obtain ⟨cc, htt⟩ := hts i t ht
      have hS2 := hS1.same sm
      refine ⟨t, _, rfl, SqT.of (sm _ _ htt), rfl, _, _, rfl, _, _, rfl, rfl, ?_⟩
      refine ⟨_, rfl, _, rfl, cc, i, rfl, fun p H2 hp hH2 s2 => ?_⟩
      have hS3 := hS2.same s2
      have hP2 := s2 _ _ (sm _ _ hP0)
      have n1 := tabNe4 hH2 hP2
      refine ⟨_, rfl, _, rfl, ?_⟩
      refine ⟨fun v H' => H' = H2 ∧ ∃ b, v = .bl b, ?_, ?_⟩
      · refine ⟨_, rfl, rfl, _, rfl, ?_⟩
        refine ite2 (fun _ => ?_) (fun _ => ?_)
        · exact ⟨_, rfl, a, ns, rfl, hS3.seq, h63, fun b => ⟨rfl, b, rfl⟩⟩
        · exact ⟨rfl, false, rfl⟩
      rintro v H' ⟨e, b, rfl⟩
      subst e
      refine ⟨p, 20, b, rfl, hH2, by decide, by decide, fun n H3 n00 n01 hH3 k3 => ?_⟩
      refine ⟨p, n, rfl, hH3, n00, by omega, fun z H4 rz lz hH4 k4 => ?_⟩
      have lz80 : z.length ≤ 80 := by omega
      have ez := len_cps z
      refine ⟨_, rfl, _, rfl, p, z, rfl, hH4, rz, lz80, fun o1 H5 ro1 lo1 hH5 k5 => ?_⟩
      refine ⟨_, rfl, _, rfl, p, z, rfl, hH5, rz, by omega, fun o2 H6 ro2 ho2 hH6 k6 => ?_⟩
      have lo2 : o2.length ≤ 80 := by have := ho2.length_le; rw [← len_cps, ← len_cps] at this; omega
      refine ⟨(by show 2 ≤ sizeLine; decide), fun L nL => ?_⟩
      generalize jL : upd H6 L _ = H7
      have s7 := upS jL nL; have e7 := upE jL
      have k27 : Kp p H' H7 := k3.trans (k4.trans (k5.trans (k6.trans (s7.kp p))))
      have hH7 := hH6.same s7
      have nLp : L ≠ p := hH6.ne nL
      have hP7 := k27 _ _ hP2 n1
      refine ⟨L, rfl, ⟨_, SqL.of e7⟩, for_list (K := K) (a := L) (xs := [V.str o1, V.str o2]) (fun j σ HA => HandAt HA p ∧ Kp p H7 HA ∧ ∃ v1 v2 v3 v5 : Option V, σ = [some (.ref a), v1, v2, v3, some (.str z), v5] ∧ v3 = some (.ref p)) ?_ ?_ ?_ ?_⟩
      · exact ⟨hH7, Kp.refl _ _, _, _, _, _, rfl, rfl⟩
      · rintro j σ HA _ ⟨_, kA, _⟩
        exact SqL.of (kA _ _ e7 nLp)
      · rintro j v σ HA hj ⟨hHA, kA, v1, v2, v3, v5, rfl, rfl⟩
        obtain ⟨u, rfl, ru, lu⟩ : ∃ u : Str, v = .str u ∧ IsRow u ∧ u.length ≤ 80 := by
          have hm := List.mem_of_getElem? hj
          simp only [List.mem_cons, List.not_mem_nil, or_false] at hm
          rcases hm with rfl | rfl
          · exact ⟨_, rfl, ro1, lo1⟩
          · exact ⟨_, rfl, ro2, lo2⟩
        have hPA := kA _ _ hP7 n1
        refine ⟨_, rfl, _, rfl, z, u, rfl, rz, ru, lz80, lu, hPA, fun HB sB => ⟨true, rfl, ?_⟩⟩
        refine iteF ?_
        refine ⟨_, rfl, _, rfl, _, rfl, p, z, u, rfl, hHA.same sB, rz, ru, lz80, lu, sB _ _ hPA, fun HC hHC kC => ⟨true, rfl, ?_⟩⟩
        refine iteF ?_
        exact ⟨hHC, kA.trans ((sB.kp p).trans kC), _, _, _, _, rfl, rfl⟩
      rintro σ H8 ⟨hH8, k8, v1, v2, v3, v5, rfl, rfl⟩
      have hP8 := k8 _ _ hP7 n1
      have hsz : z.cps.toList.Sublist z.cps.toList := List.Sublist.refl _
      refine ⟨_, rfl, _, rfl, z, _, rfl, by omega, .inl ⟨z, rfl, by omega, hP8, fun H9 s9 => ?_⟩⟩
      rw [left_is4, decide_eq_true hsz, (rowB_iff _).mpr rz]
      refine ⟨_, _, rfl, rfl, _, rfl, iteF ?_⟩
      have r0 : IsRow (Str.ofString "") := fun c hc => by
        have : (Str.ofString "").cps.toList = [] := by decide +kernel
        rw [this] at hc; cases hc
      have h0 : (Str.ofString "").cps.toList.Sublist z.cps.toList := by
        have : (Str.ofString "").cps.toList = [] := by decide +kernel
        rw [this]; exact List.nil_sublist _
      refine ⟨_, rfl, z, _, rfl, by omega, .inl ⟨_, rfl, by decide +kernel, s9 _ _ hP8, fun HA sA => ?_⟩⟩
      rw [left_is4, decide_eq_true h0, (rowB_iff _).mpr r0]
      refine ⟨_, _, rfl, rfl, _, rfl, iteF ?_⟩
      have kk : Kp p H' HA := k27.trans (k8.trans ((s9.trans sA).kp p))
      refine ⟨fun b' o e => kk b' o (s2 _ _ (sm _ _ e)) (ne_of_none (sm _ _ e) hp), _, _, _, _, _, rfl⟩
    rintro σ H1 ⟨sm, v1, v2, v3, v4, v5, rfl⟩
    exact fin_ _ (sm _ _ hP0)
end
end Lv
set_option Elab.async false
set_option linter.all false
set_option maxRecDepth 100000
set_option maxHeartbeats 8000000
namespace Lv
open PySem L2
theorem all_mk {l : PySem.W.OpenLaw} {w : World} {K : PySem.W.Frag} {h : Heap} {mg : Str → Option Value} {fa : Addr} {f1 f2 f3 f4 f5 f6 f7 f8 f9 f10 f11 f12 f13 f14 f15 f16  : Addr} {od1 an1 od2 an2 od3 an3 od4 an4 od5 an5 od6 an6 od7 an7 od8 an8 od9 an9 od10 an10 od11 an11 od12 an12 od13 an13 od14 an14 od15 an15 od16 an16 : Option Addr} {sl1 sl2 sl3 sl4 sl5 sl6 sl7 sl8 sl9 sl10 sl11 sl12 sl13 sl14 sl15 sl16 : Array (Option Value)} {oc1 kV1 dc1 pm1 cd1 ct1 oc2 kV2 dc2 pm2 cd2 ct2 oc3 kV3 dc3 pm3 cd3 ct3 oc4 kV4 dc4 pm4 cd4 ct4 oc5 kV5 dc5 pm5 cd5 ct5 oc6 kV6 dc6 pm6 cd6 ct6 oc7 kV7 dc7 pm7 cd7 ct7 oc8 kV8 dc8 pm8 cd8 ct8 oc9 kV9 dc9 pm9 cd9 ct9 oc10 kV10 dc10 pm10 cd10 ct10 oc11 kV11 dc11 pm11 cd11 ct11 oc12 kV12 dc12 pm12 cd12 ct12 oc13 kV13 dc13 pm13 cd13 ct13 oc14 kV14 dc14 pm14 cd14 ct14 oc15 kV15 dc15 pm15 cd15 ct15 oc16 kV16 dc16 pm16 cd16 ct16 : Value} {cc1 : Addr}
    (X : K.In h) (G : h.Ns mainGlobals mg) (hfa : mg "law" = some (.ref fa))
    (a1 : PySem.W.nsIn K mainGlobals "is_row" = some (some (.ref f1)))
    (l1 : K.lookup f1 = some ⟨oc1, od1, .func (PySem.W.fnOf "is_row" "is_row" (defArgs sIsRow) (defBody sIsRow) (defScope sIsRow) .none kV1 dc1 pm1 an1 cd1 ct1), sl1⟩)
    (c1 : PySem.W.codeIn K cd1 "is_row" = true)
    (k1 : PySem.W.keepIn K (.ref f1) = true)
    (ce1 : cd1 = .ref cc1)
    (ck1 : CodeK K cc1 16)
    (a2 : PySem.W.nsIn K mainGlobals "first_places" = some (some (.ref f2)))
    (l2 : K.lookup f2 = some ⟨oc2, od2, .func (PySem.W.fnOf "first_places" "first_places" (defArgs sFirstPlaces) (defBody sFirstPlaces) (defScope sFirstPlaces) .none kV2 dc2 pm2 an2 cd2 ct2), sl2⟩)
    (c2 : PySem.W.codeIn K cd2 "first_places" = true)
    (k2 : PySem.W.keepIn K (.ref f2) = true)
    (a3 : PySem.W.nsIn K mainGlobals "last_places" = some (some (.ref f3)))
    (l3 : K.lookup f3 = some ⟨oc3, od3, .func (PySem.W.fnOf "last_places" "last_places" (defArgs sLastPlaces) (defBody sLastPlaces) (defScope sLastPlaces) .none kV3 dc3 pm3 an3 cd3 ct3), sl3⟩)
    (c3 : PySem.W.codeIn K cd3 "last_places" = true)
    (k3 : PySem.W.keepIn K (.ref f3) = true)
    (a4 : PySem.W.nsIn K mainGlobals "is_left" = some (some (.ref f4)))
    (l4 : K.lookup f4 = some ⟨oc4, od4, .func (PySem.W.fnOf "is_left" "is_left" (defArgs sIsLeft) (defBody sIsLeft) (defScope sIsLeft) .none kV4 dc4 pm4 an4 cd4 ct4), sl4⟩)
    (c4 : PySem.W.codeIn K cd4 "is_left" = true)
    (k4 : PySem.W.keepIn K (.ref f4) = true)
    (a5 : PySem.W.nsIn K mainGlobals "_law_draw" = some (some (.ref f5)))
    (l5 : K.lookup f5 = some ⟨oc5, od5, .func (PySem.W.fnOf "_law_draw" "_law_draw" (defArgs sLawDraw) (defBody sLawDraw) (defScope sLawDraw) .none kV5 dc5 pm5 an5 cd5 ct5), sl5⟩)
    (c5 : PySem.W.codeIn K cd5 "_law_draw" = true)
    (k5 : PySem.W.keepIn K (.ref f5) = true)
    (a6 : PySem.W.nsIn K mainGlobals "_law_hand" = some (some (.ref f6)))
    (l6 : K.lookup f6 = some ⟨oc6, od6, .func (PySem.W.fnOf "_law_hand" "_law_hand" (defArgs sLawHand) (defBody sLawHand) (defScope sLawHand) .none kV6 dc6 pm6 an6 cd6 ct6), sl6⟩)
    (c6 : PySem.W.codeIn K cd6 "_law_hand" = true)
    (k6 : PySem.W.keepIn K (.ref f6) = true)
    (a7 : PySem.W.nsIn K mainGlobals "_law_cells" = some (some (.ref f7)))
    (l7 : K.lookup f7 = some ⟨oc7, od7, .func (PySem.W.fnOf "_law_cells" "_law_cells" (defArgs sLawCells) (defBody sLawCells) (defScope sLawCells) .none kV7 dc7 pm7 an7 cd7 ct7), sl7⟩)
    (c7 : PySem.W.codeIn K cd7 "_law_cells" = true)
    (k7 : PySem.W.keepIn K (.ref f7) = true)
    (a8 : PySem.W.nsIn K mainGlobals "_law_great" = some (some (.ref f8)))
    (l8 : K.lookup f8 = some ⟨oc8, od8, .func (PySem.W.fnOf "_law_great" "_law_great" (defArgs sLawGreat) (defBody sLawGreat) (defScope sLawGreat) .none kV8 dc8 pm8 an8 cd8 ct8), sl8⟩)
    (c8 : PySem.W.codeIn K cd8 "_law_great" = true)
    (k8 : PySem.W.keepIn K (.ref f8) = true)
    (a9 : PySem.W.nsIn K mainGlobals "_law_row" = some (some (.ref f9)))
    (l9 : K.lookup f9 = some ⟨oc9, od9, .func (PySem.W.fnOf "_law_row" "_law_row" (defArgs sLawRow) (defBody sLawRow) (defScope sLawRow) .none kV9 dc9 pm9 an9 cd9 ct9), sl9⟩)
    (c9 : PySem.W.codeIn K cd9 "_law_row" = true)
    (k9 : PySem.W.keepIn K (.ref f9) = true)
    (a10 : PySem.W.nsIn K mainGlobals "_law_size" = some (some (.ref f10)))
    (l10 : K.lookup f10 = some ⟨oc10, od10, .func (PySem.W.fnOf "_law_size" "_law_size" (defArgs sLawSize) (defBody sLawSize) (defScope sLawSize) .none kV10 dc10 pm10 an10 cd10 ct10), sl10⟩)
    (c10 : PySem.W.codeIn K cd10 "_law_size" = true)
    (k10 : PySem.W.keepIn K (.ref f10) = true)
    (a11 : PySem.W.nsIn K mainGlobals "_law_part" = some (some (.ref f11)))
    (l11 : K.lookup f11 = some ⟨oc11, od11, .func (PySem.W.fnOf "_law_part" "_law_part" (defArgs sLawPart) (defBody sLawPart) (defScope sLawPart) .none kV11 dc11 pm11 an11 cd11 ct11), sl11⟩)
    (c11 : PySem.W.codeIn K cd11 "_law_part" = true)
    (k11 : PySem.W.keepIn K (.ref f11) = true)
    (a12 : PySem.W.nsIn K mainGlobals "_law_other" = some (some (.ref f12)))
    (l12 : K.lookup f12 = some ⟨oc12, od12, .func (PySem.W.fnOf "_law_other" "_law_other" (defArgs sLawOther) (defBody sLawOther) (defScope sLawOther) .none kV12 dc12 pm12 an12 cd12 ct12), sl12⟩)
    (c12 : PySem.W.codeIn K cd12 "_law_other" = true)
    (k12 : PySem.W.keepIn K (.ref f12) = true)
    (a13 : PySem.W.nsIn K mainGlobals "_law_called" = some (some (.ref f13)))
    (l13 : K.lookup f13 = some ⟨oc13, od13, .func (PySem.W.fnOf "_law_called" "_law_called" (defArgs sLawCalled) (defBody sLawCalled) (defScope sLawCalled) .none kV13 dc13 pm13 an13 cd13 ct13), sl13⟩)
    (c13 : PySem.W.codeIn K cd13 "_law_called" = true)
    (k13 : PySem.W.keepIn K (.ref f13) = true)
    (a14 : PySem.W.nsIn K mainGlobals "_law_places_right" = some (some (.ref f14)))
    (l14 : K.lookup f14 = some ⟨oc14, od14, .func (PySem.W.fnOf "_law_places_right" "_law_places_right" (defArgs sLawPlacesRight) (defBody sLawPlacesRight) (defScope sLawPlacesRight) .none kV14 dc14 pm14 an14 cd14 ct14), sl14⟩)
    (c14 : PySem.W.codeIn K cd14 "_law_places_right" = true)
    (k14 : PySem.W.keepIn K (.ref f14) = true)
    (a15 : PySem.W.nsIn K mainGlobals "_law_left_right" = some (some (.ref f15)))
    (l15 : K.lookup f15 = some ⟨oc15, od15, .func (PySem.W.fnOf "_law_left_right" "_law_left_right" (defArgs sLawLeftRight) (defBody sLawLeftRight) (defScope sLawLeftRight) .none kV15 dc15 pm15 an15 cd15 ct15), sl15⟩)
    (c15 : PySem.W.codeIn K cd15 "_law_left_right" = true)
    (k15 : PySem.W.keepIn K (.ref f15) = true)
    (a16 : PySem.W.nsIn K mainGlobals "law" = some (some (.ref f16)))
    (l16 : K.lookup f16 = some ⟨oc16, od16, .func (PySem.W.fnOf "law" "law" (defArgs sLaw) (defBody sLaw) (defScope sLaw) .none kV16 dc16 pm16 an16 cd16 ct16), sl16⟩)
    (c16 : PySem.W.codeIn K cd16 "law" = true)
    (k16 : PySem.W.keepIn K (.ref f16) = true)
    (z_range : PySem.W.nsIn K mainGlobals "range" = some none)
    (z_len : PySem.W.nsIn K mainGlobals "len" = some none)
    (z_max : PySem.W.nsIn K mainGlobals "max" = some none)
    (z_min : PySem.W.nsIn K mainGlobals "min" = some none)
    (z_int : PySem.W.nsIn K mainGlobals "int" = some none)
    (z_bool : PySem.W.nsIn K mainGlobals "bool" = some none)
    (z_str : PySem.W.nsIn K mainGlobals "str" = some none)
    (z_list : PySem.W.nsIn K mainGlobals "list" = some none)
    (z_tuple : PySem.W.nsIn K mainGlobals "tuple" = some none)
    (z_dict : PySem.W.nsIn K mainGlobals "dict" = some none)
    (z_set : PySem.W.nsIn K mainGlobals "set" = some none)
    (z_sum : PySem.W.nsIn K mainGlobals "sum" = some none)
    (z_sorted : PySem.W.nsIn K mainGlobals "sorted" = some none)
    (z_enumerate : PySem.W.nsIn K mainGlobals "enumerate" = some none)
    (z_isinstance : PySem.W.nsIn K mainGlobals "isinstance" = some none)
    (z_reversed : PySem.W.nsIn K mainGlobals "reversed" = some none)
    (z_repr : PySem.W.nsIn K mainGlobals "repr" = some none)
    (z_all : PySem.W.nsIn K mainGlobals "all" = some none)
    (z_zip : PySem.W.nsIn K mainGlobals "zip" = some none) :
    ∃ fd : FuncData, (∀ (s : Shared) (v : Value), BindsTo s fd ⟨[v], []⟩ [("script", v)]) ∧ ∀ base : Heap, K.In base → base.Ns mainGlobals mg → BModB base mg → FnOk l.prog w K mg base CX0 5 fa fd ["script"] (spLawT K [16]) := by
  have e := hfa.symm.trans (PySem.W.mg_of X G a16)
  cases e
  have T : Glb mg := Glb.mk_ X G z_range z_len z_max z_min z_int z_bool z_str z_list z_tuple z_dict z_set z_sum z_sorted z_enumerate z_isinstance z_reversed z_repr z_all z_zip
  have F1 := fun_mk (st := sIsRow) l1 c1 k1
  have b1 := F1.binds (ps := ["thing"]) fun _ _ _ _ _ _ us hl => match us, hl with | [_], _ => rfl
  have F2 := fun_mk (st := sFirstPlaces) l2 c2 k2
  have b2 := F2.binds (ps := ["row", "other"]) fun _ _ _ _ _ _ us hl => match us, hl with | [_, _], _ => rfl
  have F3 := fun_mk (st := sLastPlaces) l3 c3 k3
  have b3 := F3.binds (ps := ["row", "other"]) fun _ _ _ _ _ _ us hl => match us, hl with | [_, _], _ => rfl
  have F4 := fun_mk (st := sIsLeft) l4 c4 k4
  have b4 := F4.binds (ps := ["row", "thing"]) fun _ _ _ _ _ _ us hl => match us, hl with | [_, _], _ => rfl
  have F5 := fun_mk (st := sLawDraw) l5 c5 k5
  have b5 := F5.binds (ps := ["hand", "limit"]) fun _ _ _ _ _ _ us hl => match us, hl with | [_, _], _ => rfl
  have F6 := fun_mk (st := sLawHand) l6 c6 k6
  have b6 := F6.binds (ps := ["cell", "k"]) fun _ _ _ _ _ _ us hl => match us, hl with | [_, _], _ => rfl
  have F7 := fun_mk (st := sLawCells) l7 c7 k7
  have b7 := F7.binds (ps := ["script", "many"]) fun _ _ _ _ _ _ us hl => match us, hl with | [_, _], _ => rfl
  have F8 := fun_mk (st := sLawGreat) l8 c8 k8
  have b8 := F8.binds (ps := ["script"]) fun _ _ _ _ _ _ us hl => match us, hl with | [_], _ => rfl
  have F9 := fun_mk (st := sLawRow) l9 c9 k9
  have b9 := F9.binds (ps := ["hand", "many"]) fun _ _ _ _ _ _ us hl => match us, hl with | [_, _], _ => rfl
  have F10 := fun_mk (st := sLawSize) l10 c10 k10
  have b10 := F10.binds (ps := ["hand", "most", "long"]) fun _ _ _ _ _ _ us hl => match us, hl with | [_, _, _], _ => rfl
  have F11 := fun_mk (st := sLawPart) l11 c11 k11
  have b11 := F11.binds (ps := ["hand", "row"]) fun _ _ _ _ _ _ us hl => match us, hl with | [_, _], _ => rfl
  have F12 := fun_mk (st := sLawOther) l12 c12 k12
  have b12 := F12.binds (ps := ["hand", "row"]) fun _ _ _ _ _ _ us hl => match us, hl with | [_, _], _ => rfl
  have F13 := fun_mk (st := sLawCalled) l13 c13 k13
  have b13 := F13.binds (ps := ["text"]) fun _ _ _ _ _ _ us hl => match us, hl with | [_], _ => rfl
  have F14 := fun_mk (st := sLawPlacesRight) l14 c14 k14
  have b14 := F14.binds (ps := ["row", "other"]) fun _ _ _ _ _ _ us hl => match us, hl with | [_, _], _ => rfl
  have F15 := fun_mk (st := sLawLeftRight) l15 c15 k15
  have b15 := F15.binds (ps := ["hand", "row", "other"]) fun _ _ _ _ _ _ us hl => match us, hl with | [_, _, _], _ => rfl
  have F16 := fun_mk (st := sLaw) l16 c16 k16
  have b16 := F16.binds (ps := ["script"]) fun _ _ _ _ _ _ us hl => match us, hl with | [_], _ => rfl
  refine ⟨PySem.W.fnOf "law" "law" (defArgs sLaw) (defBody sLaw) (defScope sLaw) .none kV16 dc16 pm16 an16 cd16 ct16, fun s v => .of_eq rfl, fun base kB _ B => ?_⟩
  have c_is_row : Callee l.prog w K mg base 1 "is_row" ["thing"] (spIsRow2 K 16) := ⟨f1, _, ok_isrow T B ck1 ce1 F1, PySem.W.mg_of X G a1, k1, b1⟩
  have c_first_places : Callee l.prog w K mg base 1 "first_places" ["row", "other"] spFirst2 := ⟨f2, _, ok_first T F2, PySem.W.mg_of X G a2, k2, b2⟩
  have c_last_places : Callee l.prog w K mg base 1 "last_places" ["row", "other"] spLast := ⟨f3, _, ok_lastp T F3, PySem.W.mg_of X G a3, k3, b3⟩
  have c_is_left : Callee l.prog w K mg base 2 "is_left" ["row", "thing"] (spIsLeft2 K 16) := ⟨f4, _, ok_isleft T c_is_row c_first_places F4, PySem.W.mg_of X G a4, k4, b4⟩
  have c_law_draw : Callee l.prog w K mg base 1 "_law_draw" ["hand", "limit"] spDraw := ⟨f5, _, ok_draw F5, PySem.W.mg_of X G a5, k5, b5⟩
  have c_law_hand : Callee l.prog w K mg base 1 "_law_hand" ["cell", "k"] spHand := ⟨f6, _, ok_hand F6, PySem.W.mg_of X G a6, k6, b6⟩
  have c_law_cells : Callee l.prog w K mg base 1 "_law_cells" ["script", "many"] (spCells K) := ⟨f7, _, ok_cells T F7, PySem.W.mg_of X G a7, k7, b7⟩
  have c_law_great : Callee l.prog w K mg base 1 "_law_great" ["script"] (spGreat K) := ⟨f8, _, ok_great T F8, PySem.W.mg_of X G a8, k8, b8⟩
  have c_law_row : Callee l.prog w K mg base 2 "_law_row" ["hand", "many"] spRow := ⟨f9, _, ok_row T c_law_draw F9, PySem.W.mg_of X G a9, k9, b9⟩
  have c_law_size : Callee l.prog w K mg base 2 "_law_size" ["hand", "most", "long"] spSize := ⟨f10, _, ok_size c_law_draw F10, PySem.W.mg_of X G a10, k10, b10⟩
  have c_law_part : Callee l.prog w K mg base 2 "_law_part" ["hand", "row"] spPart := ⟨f11, _, ok_part T c_law_draw F11, PySem.W.mg_of X G a11, k11, b11⟩
  have c_law_partS : Callee l.prog w K mg base 2 "_law_part" ["hand", "row"] spPartS := ⟨f11, _, ok_partS T c_law_draw F11, PySem.W.mg_of X G a11, k11, b11⟩
  have c_law_other : Callee l.prog w K mg base 3 "_law_other" ["hand", "row"] spOther := ⟨f12, _, ok_other T c_law_draw c_law_row c_law_part F12, PySem.W.mg_of X G a12, k12, b12⟩
  have c_law_called : Callee l.prog w K mg base 1 "_law_called" ["text"] spCalled := ⟨f13, _, ok_called T F13, PySem.W.mg_of X G a13, k13, b13⟩
  have c_law_places_right : Callee l.prog w K mg base 3 "_law_places_right" ["row", "other"] (spPlaces4 16) := ⟨f14, _, ok_places4 T c_first_places c_last_places c_is_left c_law_called F14, PySem.W.mg_of X G a14, k14, b14⟩
  have c_law_left_right : Callee l.prog w K mg base 3 "_law_left_right" ["hand", "row", "other"] (spLeftR4 16) := ⟨f15, _, ok_leftR4 T c_law_draw c_law_partS c_is_left c_is_row F15, PySem.W.mg_of X G a15, k15, b15⟩
  exact ok_law T c_law_draw c_law_hand c_law_cells c_law_great c_law_row c_law_size c_law_partS c_law_other c_law_places_right c_law_left_right c_is_left F16
theorem walk {l : PySem.W.OpenLaw} {q : Program} {loose : List Str} {XP : (Str → Option Value) → Heap → Prop} {YP : World → Heap → Prop} {d : DefRec} {K : Params → PySem.W.Frag} (hn : l.most = some 63) (hdf : d.params.defaults = [])
    (hY : ∀ (w : World) (h : Heap), YP w h → (K w.params).In h) (hmk : ∀ w : World, Makers q (K w.params) [("is_row", 16)])
    (F : ∀ (w : World) (mg : Str → Option Value) (fa : Addr) (h : Heap), (K w.params).In h → h.Ns mainGlobals mg → mg d.name = some (.ref fa) →
      ∃ fd : FuncData, (∀ (s : Shared) (u : Value), BindsTo s fd ⟨[u], []⟩ [("script", u)]) ∧ ∀ base : Heap, (K w.params).In base → base.Ns mainGlobals mg → BModB base mg → FnOk l.prog w (K w.params) mg base CX0 5 fa fd ["script"] (spLawT (K w.params) [16])) :
    PySem.W.WalkO q loose XP YP l.row.toRowW d [] (fun f vs => PySem.call f vs) :=
  L2.walk_ofT [("is_row", 16)] (n := 63) (k := 5) (x := "script") (CX := fun _ => CX0) (sp := fun w => spLawT (K w.params) [16]) hn (by decide) hdf ⟨rfl, by decide, by decide, rfl⟩ hY hmk F (fun _ _ a ns hl hO hT hS => ⟨a, ns, rfl, hS, hl, hO, hT, fun _ h => ⟨rfl, h⟩⟩) fun _ _ _ _ _ z => z
end Lv
open PySem PySem.W PyProof.Rows
set_option maxRecDepth 100000 in
set_option maxHeartbeats 0 in
theorem PySem.Challenge.cw_leavings_k04_whole_rows_left_holds : PySem.Challenge.rw_leavings_k04_whole_rows_left.Holds := by
  w_on; o_law; k_head; (case hw => w_witness2)
  k_fill
  refine Lv.walk (l := PySem.Challenge.rw_leavings_k04_whole_rows_left) rfl rfl (fun w h Y => PySem.W.kIn_of Y) ?mkx ?F
  case mkx =>
    intro w
    refine' L2.mk_makers ?mh1 ?mh2 ?mh3 ?mh4 ?mh5 ?mh6 ?mh7
    (case mh1 => rfl); (case mh2 => k_is); (case mh3 => k_is); (case mh4 => rfl); (case mh5 => (refine' L2.mk_codeK ?cq0 ?cq1 ?cq2 ?cq3 ?cq4 ?cq5 ?cq6 ?cq7 ?cq8; (case cq0 => k_is); (case cq1 => rfl); (case cq2 => rfl); (case cq3 => rfl); (case cq4 => rfl); (case cq5 => rfl); (case cq6 => rfl); (case cq7 => rfl); (case cq8 => decide))); (case mh6 => rfl)
    case mh7 =>
    exact trivial
  case F =>
    intro w mg fa h KX G hmg
    refine' Lv.all_mk KX G hmg ?a1 ?l1 ?c1 ?k1 ?ce1 ?ck1 ?a2 ?l2 ?c2 ?k2 ?a3 ?l3 ?c3 ?k3 ?a4 ?l4 ?c4 ?k4 ?a5 ?l5 ?c5 ?k5 ?a6 ?l6 ?c6 ?k6 ?a7 ?l7 ?c7 ?k7 ?a8 ?l8 ?c8 ?k8 ?a9 ?l9 ?c9 ?k9 ?a10 ?l10 ?c10 ?k10 ?a11 ?l11 ?c11 ?k11 ?a12 ?l12 ?c12 ?k12 ?a13 ?l13 ?c13 ?k13 ?a14 ?l14 ?c14 ?k14 ?a15 ?l15 ?c15 ?k15 ?a16 ?l16 ?c16 ?k16 ?z_range ?z_len ?z_max ?z_min ?z_int ?z_bool ?z_str ?z_list ?z_tuple ?z_dict ?z_set ?z_sum ?z_sorted ?z_enumerate ?z_isinstance ?z_reversed ?z_repr ?z_all ?z_zip
    (case a1 => k_is); (case l1 => k_is); (case c1 => k_is); (case k1 => k_is); (case ce1 => rfl); (case ck1 => (refine' L2.mk_codeK ?cq0 ?cq1 ?cq2 ?cq3 ?cq4 ?cq5 ?cq6 ?cq7 ?cq8; (case cq0 => k_is); (case cq1 => rfl); (case cq2 => rfl); (case cq3 => rfl); (case cq4 => rfl); (case cq5 => rfl); (case cq6 => rfl); (case cq7 => rfl); (case cq8 => decide)))
    (case a2 => k_is); (case l2 => k_is); (case c2 => k_is); (case k2 => k_is); (case a3 => k_is); (case l3 => k_is)
    (case c3 => k_is); (case k3 => k_is); (case a4 => k_is); (case l4 => k_is); (case c4 => k_is); (case k4 => k_is)
    (case a5 => k_is); (case l5 => k_is); (case c5 => k_is); (case k5 => k_is); (case a6 => k_is); (case l6 => k_is)
    (case c6 => k_is); (case k6 => k_is); (case a7 => k_is); (case l7 => k_is); (case c7 => k_is); (case k7 => k_is)
    (case a8 => k_is); (case l8 => k_is); (case c8 => k_is); (case k8 => k_is); (case a9 => k_is); (case l9 => k_is)
    (case c9 => k_is); (case k9 => k_is); (case a10 => k_is); (case l10 => k_is); (case c10 => k_is); (case k10 => k_is)
    (case a11 => k_is); (case l11 => k_is); (case c11 => k_is); (case k11 => k_is); (case a12 => k_is); (case l12 => k_is)
    (case c12 => k_is); (case k12 => k_is); (case a13 => k_is); (case l13 => k_is); (case c13 => k_is); (case k13 => k_is)
    (case a14 => k_is); (case l14 => k_is); (case c14 => k_is); (case k14 => k_is); (case a15 => k_is); (case l15 => k_is)
    (case c15 => k_is); (case k15 => k_is); (case a16 => k_is); (case l16 => k_is); (case c16 => k_is); (case k16 => k_is)
    (case z_range => k_is); (case z_len => k_is); (case z_max => k_is); (case z_min => k_is); (case z_int => k_is); (case z_bool => k_is)
    (case z_str => k_is); (case z_list => k_is); (case z_tuple => k_is); (case z_dict => k_is); (case z_set => k_is); (case z_sum => k_is)
    (case z_sorted => k_is); (case z_enumerate => k_is); (case z_isinstance => k_is); (case z_reversed => k_is); (case z_repr => k_is); (case z_all => k_is)
    (case z_zip => k_is)
#print axioms PySem.Challenge.cw_leavings_k04_whole_rows_left_holds
