import PyProof.Rows.All
import Wide.All
import OpenK.AllK
import Wide.FinOn
import PyProof.EqAt
import PyProof.EqKinds
import PyProof.TupleCall
import KE.BitLaws
import PySem.Challenge.RW_leavings_k37_whole_parts_otherwise
-- CHANGE: your row's module here, as the last of these rows
set_option Elab.async false
set_option linter.all false
set_option maxRecDepth 100000
namespace L2
open PySem PySem.Spec PyProof.Rows
/-- a key: an int or a str -/
abbrev Key := Sum Int Str
def keyIs : Key → Value → Bool
  | .inl k, v => Value.isInt k v
  | .inr x, v => Value.isStrOf x v
def keyH (w : World) : Key → Int
  | .inl k => hashInt k
  | .inr x => hashStr w x
theorem keyIs_shape : ∀ {k : Key} {v : Value}, keyIs k v = true → (∃ i t, k = Sum.inl i ∧ v = Value.int i t) ∨ (∃ x t, k = Sum.inr x ∧ v = Value.str x t)
  | .inl i, v, h => by
    obtain ⟨t, e⟩ := Value.isInt_shape (k := i) (v := v) h
    exact .inl ⟨i, t, rfl, e⟩
  | .inr x, v, h => by
    obtain ⟨t, e⟩ := Value.isStrOf_shape (x := x) (v := v) h
    exact .inr ⟨x, t, rfl, e⟩
theorem keyIs_int (i : Int) (t : Tok) : keyIs (.inl i) (.int i t) = true := by simp [keyIs, Value.isInt]
theorem keyIs_str (x : Str) (t : Tok) : keyIs (.inr x) (.str x t) = true := by simp [keyIs, Value.isStrOf]
theorem key_ll (a b : Int) : decide ((Sum.inl a : Key) = Sum.inl b) = (a == b) := by
  by_cases e : a = b
  · subst e; simp
  · have h : ¬ (Sum.inl a : Key) = Sum.inl b := fun q => e (Sum.inl.inj q)
    rw [decide_eq_false h]
    exact (beq_eq_false_iff_ne.mpr e).symm
theorem key_rr (a b : Str) : decide ((Sum.inr a : Key) = Sum.inr b) = decide (a = b) := by
  by_cases e : a = b
  · subst e; simp
  · have h : ¬ (Sum.inr a : Key) = Sum.inr b := fun q => e (Sum.inr.inj q)
    rw [decide_eq_false h, decide_eq_false e]
theorem key_lr (a : Int) (b : Str) : decide ((Sum.inl a : Key) = Sum.inr b) = false := decide_eq_false (fun q => nomatch q)
theorem key_rl (a : Str) (b : Int) : decide ((Sum.inr a : Key) = Sum.inl b) = false := decide_eq_false (fun q => nomatch q)
def mixKind (prog : Program) (w : World) : PySem.KeyKind prog w Key where
  is := keyIs
  hash := keyH w
  inj := fun v a b ha hb => by
    rcases keyIs_shape ha with ⟨i, t, rfl, rfl⟩ | ⟨x, t, rfl, rfl⟩
    · rcases keyIs_shape hb with ⟨j, u, rfl, e⟩ | ⟨y, u, rfl, e⟩
      · injection e with e1 _; rw [e1]
      · exact nomatch e
    · rcases keyIs_shape hb with ⟨j, u, rfl, e⟩ | ⟨y, u, rfl, e⟩
      · exact nomatch e
      · injection e with e1 _; rw [e1]
  byValue := fun k v h => by
    rcases keyIs_shape h with ⟨i, t, rfl, rfl⟩ | ⟨x, t, rfl, rfl⟩ <;> rfl
  pyHash := fun hv h => by
    rcases keyIs_shape hv with ⟨i, t, rfl, rfl⟩ | ⟨x, t, rfl, rfl⟩
    · exact wpAny_pyHash_int h
    · exact wpAny_pyHash_str h
  eqBool := fun hu hv h => by
    rcases keyIs_shape hu with ⟨i, t, rfl, rfl⟩ | ⟨x, t, rfl, rfl⟩
    · rcases keyIs_shape hv with ⟨j, u, rfl, rfl⟩ | ⟨y, u, rfl, rfl⟩
      · rw [key_ll] at h; exact wpAny_eqBool_int h
      · rw [key_lr] at h; exact SeqAt.EqAt.int_str i t y u _ _ _ _ h
    · rcases keyIs_shape hv with ⟨j, u, rfl, rfl⟩ | ⟨y, u, rfl, rfl⟩
      · rw [key_rl] at h; exact SeqAt.EqAt.str_int x t j u _ _ _ _ h
      · rw [key_rr] at h; exact wpAny_eqBool_str h
  «strs» := fun k x t v h => by
    rcases keyIs_shape h with ⟨i, u, rfl, e⟩ | ⟨y, u, rfl, e⟩
    · exact nomatch e
    · injection e with e1 _
      subst e1
      cases v <;> rfl
theorem mixKind_int (prog : Program) (w : World) (i : Int) (t : Tok) : (mixKind prog w).is (.inl i) (.int i t) = true := keyIs_int i t
theorem mixKind_str (prog : Program) (w : World) (x : Str) (t : Tok) : (mixKind prog w).is (.inr x) (.str x t) = true := keyIs_str x t
end L2
namespace L2
open PySem PySem.Spec PyProof.Rows
/-- a value, without the heap -/
inductive V where
  | non | bl (b : Bool) | int (i : Int) | str (x : Str) | byt (b : Array UInt8) | flt (b : UInt64) | ref (a : Addr) | ty (n : String)
  deriving DecidableEq
def RelV : V → Value → Prop
  | .non, u => u = Value.none
  | .bl b, u => u = Value.bool b
  | .int i, u => ∃ t, u = Value.int i t
  | .str x, u => ∃ t, u = Value.str x t
  | .byt b, u => ∃ t, u = Value.bytes b t
  | .flt b, u => ∃ t, u = Value.float b t
  | .ref a, u => u = Value.ref a
  | .ty n, u => u = Value.type n
abbrev Vals : List V → List Value → Prop := Paired RelV
theorem Vals.length {xs : List V} {us : List Value} (r : Vals xs us) : xs.length = us.length := Paired.length r
theorem Vals.get : ∀ {xs : List V} {us : List Value} {i : Nat} {x : V}, Vals xs us → xs[i]? = some x → ∃ u, us[i]? = some u ∧ RelV x u
  | _, _, _, _, .nil, e => by simp at e
  | _, _, 0, _, .cons r _, e => by simp at e; subst e; exact ⟨_, rfl, r⟩
  | _, _, i + 1, x, .cons _ t, e => by
    obtain ⟨u, h1, h2⟩ := Vals.get (i := i) (x := x) t (by simpa using e)
    exact ⟨u, by simpa using h1, h2⟩
theorem Vals.set {x : V} {u : Value} (r : RelV x u) : ∀ {xs : List V} {us : List Value} (i : Nat), Vals xs us → Vals (xs.set i x) (us.set i u)
  | _, _, _, .nil => .nil
  | _, _, 0, .cons _ t => .cons r t
  | _, _, i + 1, .cons q t => .cons q (Vals.set r i t)
theorem Vals.append : ∀ {xs ys : List V} {us ws : List Value}, Vals xs us → Vals ys ws → Vals (xs ++ ys) (us ++ ws)
  | _, _, _, _, .nil, s => s
  | _, _, _, _, .cons r t, s => .cons r (Vals.append t s)
theorem Vals.take : ∀ {xs : List V} {us : List Value} (n : Nat), Vals xs us → Vals (xs.take n) (us.take n)
  | _, _, 0, _ => .nil
  | _, _, _ + 1, .nil => .nil
  | _, _, n + 1, .cons r t => .cons r (Vals.take n t)
theorem Vals.drop : ∀ {xs : List V} {us : List Value} (n : Nat), Vals xs us → Vals (xs.drop n) (us.drop n)
  | _, _, 0, r => r
  | _, _, _ + 1, .nil => .nil
  | _, _, n + 1, .cons _ t => Vals.drop n t
def RelO : Option V → Option Value → Prop
  | some v, some u => RelV v u
  | none, none => True
  | _, _ => False
def KV {κ : Type} : List (κ × V) → List (κ × Value) → Prop := Paired fun (p : κ × V) (q : κ × Value) => p.1 = q.1 ∧ RelV p.2 q.2
/-- a key of a dict (00_mix): an int or a text -/
def kV : Key → V
  | .inl i => .int i
  | .inr x => .str x
/-- what stands at a tracked address -/
inductive HO where
  /-- a list -/
  | lst (xs : List V)
  /-- a tuple (never changes) -/
  | tup (xs : List V)
  /-- a dict whose keys are ints and texts; one whose keys are tuples of ints and texts (the empty one is both) -/
  | dK (kvs : List (Key × V)) | dT (kvs : List (List Key × V))
  /-- a set of ints: its members, its size -/
  | set (S : Int → Bool) (n : Nat)
  /-- an instance of the class at C, its dict at dx, its attributes -/
  | ins (C dx : Addr) (fs : List (Str × V))
  /-- the dict of the instance at x -/
  | own (x : Addr)
  /-- the dict of an exception -/
  | xd (fs : List (Str × V))
  /-- a bound method, f of x -/
  | met (f x : Addr)
  /-- a range object lo, lo + 1, .. below hi -/
  | rng (lo hi : Int)
  /-- a thing that is known to the object (the script; a dict while a loop walks it): read, never written while it is so -/
  | frz (o : Obj) (u : HO)
  /-- a code object's table -/
  | tbl (ps : Array Value)
  /-- any other thing, by what is true of its one object (a def of one's own: SetO a S n := HO.ext fun h => ..) -/
  | ext (φ : Heap → Prop)
abbrev Hp := Addr → Option HO
def upd (H : Hp) (a : Addr) (o : HO) : Hp := fun b => if b = a then some o else H b
theorem upd_same {H : Hp} {a : Addr} {o : HO} : upd H a o a = some o := by unfold upd; rw [if_pos rfl]
theorem upd_ne {H : Hp} {a b : Addr} {o : HO} (h : b ≠ a) : upd H a o b = H b := by unfold upd; rw [if_neg h]
/-- two objects of different content stand apart -/
theorem ne_of {H : Hp} {a b : Addr} {o u : HO} (h : H a = some o) (h' : H b = some u) (d : o ≠ u) : a ≠ b := by
  intro e; subst e; rw [h] at h'; exact d (Option.some.inj h')
theorem ne_of_none {H : Hp} {a b : Addr} {o : HO} (h : H a = some o) (h' : H b = none) : a ≠ b := by
  intro e; subst e; rw [h] at h'; cases h'
section
variable (P : Program) (w : World)
def ObjOk (H : Hp) (h : Heap) (a : Addr) : HO → Prop
  | .lst xs => xs.length ≤ sizeLine ∧ ∃ (its : List Value) (n : Nat), Vals xs its ∧ h.get? a = some { cls := .type "list", data := .seq its.toArray n }
  | .tup xs => xs.length ≤ sizeLine ∧ ∃ its : List Value, Vals xs its ∧ IsTup h a its.toArray
  | .dK kvs => kvs.length ≤ sizeLine ∧ (a == sysModules) = false ∧ ∃ vs, KV kvs vs ∧ h.DictOf (mixKind P w) a vs
  | .dT kvs => kvs.length ≤ sizeLine ∧ (a == sysModules) = false ∧ ∃ xs : List (List Key × Addr × Value),
      Paired (fun (p : List Key × V) (q : List Key × Addr × Value) => p.1 = q.1 ∧ H q.2.1 = some (.tup (p.1.map kV)) ∧ RelV p.2 q.2.2) kvs xs ∧
      ∃ o es ep, h.get? a = some o ∧ o.ExactDict ∧ o.data = .dict es ep ∧ es.toList = xs.map (entryOfKey (tupleKind (mixKind P w))) ∧ (xs.map (·.1)).Nodup
  | .set S n => h.SetOf (intKind P w) a S n
  | .ins C dx fs => H dx = some (.own a) ∧ fs.length ≤ 1000 ∧ dx ≠ a ∧ h.get? a = some (PySem.W.instObj C dx) ∧
      ∃ mA, h.Ns1 dx mA ∧ (∀ f, RelO (fs.lookup f) (mA f)) ∧ PySem.Within mA (fs.map (·.1))
  | .own _ => ∃ o, h.get? a = some o
  | .xd fs => ∃ mA, h.Ns1 a mA ∧ ∀ f, RelO (fs.lookup f) (mA f)
  | .rng lo hi => ∃ t u v, h.get? a = some { cls := .type "range", data := .fields #[.int lo t, .int hi u, .int 1 v] }
  | .frz o u => h.get? a = some o ∧ ObjOk H h a u
  | .tbl ps => h.get? a = some { cls := .none, data := .fields ps }
  | .met f x => h.get? a = some (PySem.W.methodObj (.ref f) (.ref x))
  | .ext φ => φ h ∧ (∃ o, h.get? a = some o) ∧ ∀ h1 h2 : Heap, φ h1 → (∀ o, h1.get? a = some o → h2.get? a = some o) → φ h2
/-- the abstract heap is held -/
def HOk (H : Hp) (h : Heap) : Prop := ∀ a o, H a = some o → ObjOk P w H h a o
end
section
variable {P : Program} {w : World} {H H' : Hp} {h h' : Heap} {a : Addr} {o : HO}
theorem ObjOk.lt (x : ObjOk P w H h a o) : a < h.objs.size := by
  cases o with
  | lst xs => obtain ⟨_, _, _, _, e⟩ := x; exact Heap.lt_size e
  | tup xs => obtain ⟨_, _, _, p⟩ := x; exact p.lt
  | dK kvs => obtain ⟨_, _, _, _, o, _, _, e, _⟩ := x; exact Heap.lt_size e
  | dT kvs => obtain ⟨_, _, _, _, o, _, _, e, _⟩ := x; exact Heap.lt_size e
  | set S n => obtain ⟨o, _, _, _, e, _⟩ := x; exact Heap.lt_size e
  | ins C dx fs => obtain ⟨_, _, _, e, _⟩ := x; exact Heap.lt_size e
  | own y => obtain ⟨_, e⟩ := x; exact Heap.lt_size e
  | xd fs => obtain ⟨_, ⟨_, _, _, e, _⟩, _⟩ := x; exact Heap.lt_size e
  | rng lo hi => obtain ⟨_, _, _, e⟩ := x; exact Heap.lt_size e
  | frz ob u => obtain ⟨e, _⟩ := x; exact Heap.lt_size e
  | tbl ps => exact Heap.lt_size (show h.get? a = some _ from x)
  | met f y => exact Heap.lt_size (show h.get? a = some _ from x)
  | ext φ => obtain ⟨_, ⟨_, e⟩, _⟩ := x; exact Heap.lt_size e
theorem Paired.mapP {α β : Type} {F G : α → β → Prop} : ∀ {l₁ : List α} {l₂ : List β}, Paired F l₁ l₂ → (∀ a b, F a b → G a b) → Paired G l₁ l₂
  | _, _, .nil, _ => .nil
  | _, _, .cons r t, f => .cons (f _ _ r) (Paired.mapP t f)
/-- what an object's description leans on: its own object, its own dict, the tuples -/
theorem ObjOk.stay (x : ObjOk P w H h a o) (k : ∀ b u, (b = a ∨ H b = some (.own a)) → h.get? b = some u → h'.get? b = some u)
    (ho : ∀ b, H b = some (.own a) → H' b = some (.own a)) (ht : ∀ b xs, H b = some (.tup xs) → H' b = some (.tup xs)) : ObjOk P w H' h' a o := by
  induction o with
  | lst xs => obtain ⟨z, its, n, r, e⟩ := x; exact ⟨z, its, n, r, k _ _ (.inl rfl) e⟩
  | tup xs => obtain ⟨z, its, r, ob, e, c⟩ := x; exact ⟨z, its, r, ob, k _ _ (.inl rfl) e, c⟩
  | dK kvs => obtain ⟨z, y, vs, r, ob, es, ep, e, c⟩ := x; exact ⟨z, y, vs, r, ob, es, ep, k _ _ (.inl rfl) e, c⟩
  | dT kvs =>
    obtain ⟨z, y, xs, r, ob, es, ep, e, c⟩ := x
    exact ⟨z, y, xs, Paired.mapP r fun p q z => ⟨z.1, ht _ _ z.2.1, z.2.2⟩, ob, es, ep, k _ _ (.inl rfl) e, c⟩
  | set S n => obtain ⟨ob, es, ep, t, e, c⟩ := x; exact ⟨ob, es, ep, t, k _ _ (.inl rfl) e, c⟩
  | ins C dx fs =>
    obtain ⟨d, z, ne, e, mA, ⟨od, es, ep, e2, c⟩, r⟩ := x
    exact ⟨ho _ d, z, ne, k _ _ (.inl rfl) e, mA, ⟨od, es, ep, k _ _ (.inr d) e2, c⟩, r⟩
  | own y => obtain ⟨ob, e⟩ := x; exact ⟨ob, k _ _ (.inl rfl) e⟩
  | xd fs => obtain ⟨mA, ⟨od, es, ep, e, c⟩, r⟩ := x; exact ⟨mA, ⟨od, es, ep, k _ _ (.inl rfl) e, c⟩, r⟩
  | rng lo hi => obtain ⟨t, u, v, e⟩ := x; exact ⟨t, u, v, k _ _ (.inl rfl) e⟩
  | frz ob u ih => obtain ⟨e, q⟩ := x; exact ⟨k _ _ (.inl rfl) e, ih q⟩
  | tbl ps =>
    have e : h.get? a = some { cls := .none, data := .fields ps } := x
    show h'.get? a = some { cls := .none, data := .fields ps }
    exact k a _ (.inl rfl) e
  | met f y =>
    have e : h.get? a = some (PySem.W.methodObj (.ref f) (.ref y)) := x
    show h'.get? a = some (PySem.W.methodObj (.ref f) (.ref y))
    exact k a _ (.inl rfl) e
  | ext φ => obtain ⟨p, ⟨o, e⟩, st⟩ := x; exact ⟨st _ _ p fun o q => k _ _ (.inl rfl) q, ⟨o, k _ _ (.inl rfl) e⟩, st⟩
theorem HOk.lt (x : HOk P w H h) (e : H a = some o) : a < h.objs.size := (x a o e).lt
theorem HOk.fresh (x : HOk P w H h) (e : h.objs.size ≤ a) : H a = none := by
  cases q : H a with
  | none => rfl
  | some u => exact absurd (Nat.lt_of_lt_of_le (x.lt q) e) (Nat.lt_irrefl _)
/-- every object of the heap is kept -/
theorem HOk.kept (x : HOk P w H h) (k : ∀ b u, h.get? b = some u → h'.get? b = some u) : HOk P w H h' := fun a o e =>
  (x a o e).stay (fun b u _ q => k b u q) (fun _ q => q) fun _ _ q => q
/-- a new object is laid and tracked -/
theorem HOk.laid (x : HOk P w H h) (k : ∀ b u, h.get? b = some u → h'.get? b = some u) (hp : h.objs.size ≤ a) (new : ObjOk P w (upd H a o) h' a o) : HOk P w (upd H a o) h' := fun b u e => by
  have hn := x.fresh hp
  by_cases hb : b = a
  · subst hb; rw [upd_same] at e; cases e; exact new
  · rw [upd_ne hb] at e
    exact (x b u e).stay (fun c v _ q => k c v q) (fun c q => by rw [upd_ne (ne_of_none q hn)]; exact q) fun c xs q => by rw [upd_ne (ne_of_none q hn)]; exact q
end
/-- what may be read as u: it is u, or a known u -/
def Rd (H : Hp) (a : Addr) (u : HO) : Prop := H a = some u ∨ ∃ o, H a = some (.frz o u)
theorem Rd.of {H : Hp} {a : Addr} {u : HO} (h : H a = some u) : Rd H a u := .inl h
theorem Rd.ok {P : Program} {w : World} {H : Hp} {h : Heap} {a : Addr} {u : HO} (r : Rd H a u) (x : HOk P w H h) : ObjOk P w H h a u := by
  rcases r with r | ⟨o, r⟩
  · exact x a u r
  · obtain ⟨_, q⟩ := x a _ r
    exact q
/-- what may be written -/
def Mut : Option HO → Prop
  | some (.lst _) => True
  | some (.dK _) => True
  | some (.dT _) => True
  | some (.set _ _) => True
  | some (.ins _ _ _) => True
  | some (.ext _) => True
  | _ => False
section
variable {P : Program} {w : World} {H : Hp} {h h' : Heap} {x e : Addr} {o' : HO}
/-- the object at e is changed: x itself, or the dict of the instance x -/
theorem HOk.write (ok : HOk P w H h) (mu : Mut (H x)) (he : e = x ∨ H e = some (.own x)) (k : ∀ b u, b ≠ e → h.get? b = some u → h'.get? b = some u) (heo : ∃ u, h'.get? e = some u)
    (new : ObjOk P w (upd H x o') h' x o') : HOk P w (upd H x o') h' := fun b u q => by
  have nown : ∀ c y, H c = some (.own y) → c ≠ x := fun c y r z => by subst z; rw [r] at mu; exact mu
  have ntup : ∀ c xs, H c = some (.tup xs) → c ≠ x := fun c xs r z => by subst z; rw [r] at mu; exact mu
  by_cases hb : b = x
  · subst hb; rw [upd_same] at q; cases q; exact new
  · rw [upd_ne hb] at q
    by_cases hbe : b = e
    · have q' : H b = some (.own x) := by
        rcases he with z | z
        · exact absurd (hbe.trans z) hb
        · rw [hbe]; exact z
      rw [q] at q'; cases q'
      obtain ⟨v, hv⟩ := heo
      exact ⟨v, by rw [hbe]; exact hv⟩
    · refine (ok b u q).stay (fun c v hc r => k c v ?_ r) (fun c r => by rw [upd_ne (nown c b r)]; exact r) fun c xs r => by rw [upd_ne (ntup c xs r)]; exact r
      rcases hc with rfl | hc
      · exact hbe
      · rintro rfl
        rcases he with z | z
        · exact nown c b hc z
        · rw [hc] at z; cases z; exact hb rfl
end
structure Un (fs ex : List Addr) (H H' : Hp) (h h' : Heap) : Prop where
  keep : ∀ b o, h.get? b = some o → H b = none → b ∉ fs → b ∉ ex → h'.get? b = some o
  slot : ∀ b o, h.get? b = some o → H b = none → b ∈ fs → b ∉ ex → ∃ sl, h'.get? b = some { o with slots := sl }
  free : ∀ b o, h.get? b = some o → H b = none → b ∉ ex → H' b = none
  there : ∀ b o, h.get? b = some o → b ∉ ex → ∃ o', h'.get? b = some o'
  tups : ∀ b xs, H b = some (.tup xs) → H' b = some (.tup xs)
  frzs : ∀ b o u, H b = some (.frz o u) → H' b = some (.frz o u)
  tbls : ∀ b ps, H b = some (.tbl ps) → ∃ more, H' b = some (.tbl (ps ++ more))
section
variable {fs fs' ex ex' : List Addr} {H H1 H2 : Hp} {h h1 h2 h' : Heap} {a x e : Addr} {o : HO}
theorem Un.any (u : Un fs ex H H1 h h1) {b : Addr} {ob : Obj} (q : h.get? b = some ob) (n : H b = none) (hx : b ∉ ex) : ∃ sl, h1.get? b = some { ob with slots := sl } := by
  by_cases hb : b ∈ fs
  · exact u.slot b ob q n hb hx
  · exact ⟨ob.slots, u.keep b ob q n hb hx⟩
theorem Un.trans (a : Un fs ex H H1 h h1) (b : Un fs ex H1 H2 h1 h2) : Un fs ex H H2 h h2 where
  keep := fun c ob q n hc hx => b.keep c ob (a.keep c ob q n hc hx) (a.free c ob q n hx) hc hx
  slot := fun c ob q n hc hx => by
    obtain ⟨sl, e1⟩ := a.slot c ob q n hc hx
    obtain ⟨sl', e2⟩ := b.slot c _ e1 (a.free c ob q n hx) hc hx
    exact ⟨sl', e2⟩
  free := fun c ob q n hx => by
    obtain ⟨o', e1⟩ := a.there c ob q hx
    exact b.free c o' e1 (a.free c ob q n hx) hx
  there := fun c ob q hx => by
    obtain ⟨o', e1⟩ := a.there c ob q hx
    exact b.there c o' e1 hx
  tups := fun c xs q => b.tups c xs (a.tups c xs q)
  frzs := fun c ob xs q => b.frzs c ob xs (a.frzs c ob xs q)
  tbls := fun c ps q => by
    obtain ⟨m1, e1⟩ := a.tbls c ps q
    obtain ⟨m2, e2⟩ := b.tbls c _ e1
    exact ⟨m1 ++ m2, by rw [e2, Array.append_assoc]⟩
theorem Un.kept (k : ∀ b u, h.get? b = some u → h'.get? b = some u) : Un fs ex H H h h' :=
  ⟨fun b ob q _ _ _ => k b ob q, fun b ob q _ _ _ => ⟨ob.slots, k b ob q⟩, fun _ _ _ n _ => n, fun b ob q _ => ⟨ob, k b ob q⟩, fun _ _ q => q, fun _ _ _ q => q, fun _ ps q => ⟨#[], by rw [q]; simp⟩⟩
theorem Un.refl : Un fs ex H H h h := Un.kept fun _ _ q => q
theorem Un.laid (k : ∀ b u, h.get? b = some u → h'.get? b = some u) (hp : h.objs.size ≤ a) (hn : H a = none) : Un fs ex H (upd H a o) h h' where
  keep := fun b u q _ _ _ => k b u q
  slot := fun b u q _ _ _ => ⟨u.slots, k b u q⟩
  free := fun b u q n _ => by rw [upd_ne (Nat.ne_of_lt (Nat.lt_of_lt_of_le (Heap.lt_size q) hp))]; exact n
  there := fun b u q _ => ⟨u, k b u q⟩
  tups := fun b xs q => by rw [upd_ne (ne_of_none q hn)]; exact q
  frzs := fun b u xs q => by rw [upd_ne (ne_of_none q hn)]; exact q
  tbls := fun b ps q => ⟨#[], by rw [upd_ne (ne_of_none q hn), q]; simp⟩
theorem Un.write (mu : Mut (H x)) (he : e = x ∨ H e = some (.own x)) (k : ∀ b u, b ≠ e → h.get? b = some u → h'.get? b = some u) (heo : ∃ u, h'.get? e = some u) : Un fs ex H (upd H x o) h h' := by
  have hx : ∀ b, H b = none → b ≠ x := fun b n z => by subst z; rw [n] at mu; exact mu
  have hb : ∀ b, H b = none → b ≠ e := fun b n z => by
    subst z
    rcases he with r | r
    · exact hx b n r
    · rw [n] at r; cases r
  have hm : ∀ b u, H b = some u → ¬ Mut (some u) → b ≠ x := fun b u q nm z => by subst z; rw [q] at mu; exact nm mu
  refine ⟨fun b u q n _ _ => k b u (hb b n) q, fun b u q n _ _ => ⟨u.slots, k b u (hb b n) q⟩, fun b u q n _ => by rw [upd_ne (hx b n)]; exact n, fun b u q _ => ?_,
    fun b xs q => by rw [upd_ne (hm b _ q fun z => z)]; exact q, fun b u xs q => by rw [upd_ne (hm b _ q fun z => z)]; exact q, fun b ps q => ⟨#[], by rw [upd_ne (hm b _ q fun z => z), q]; simp⟩⟩
  by_cases hbe : b = e
  · subst hbe; exact heo
  · exact ⟨u, k b u hbe q⟩
theorem Un.mono (u : Un fs ex H H1 h h1) (hs : ∀ b ∈ fs, b ∈ fs') (hx : ∀ b ∈ ex, b ∈ ex') : Un fs' ex' H H1 h h1 :=
  ⟨fun b ob q n hb he => u.keep b ob q n (fun z => hb (hs b z)) fun z => he (hx b z), fun _ _ q n _ he => u.any q n fun z => he (hx _ z), fun b ob q n he => u.free b ob q n fun z => he (hx b z), fun b ob q he => u.there b ob q fun z => he (hx b z), u.tups, u.frzs, u.tbls⟩
end
def trk (h : Heap) (H : Hp) : List Addr := (List.range h.objs.size).filter fun a => (H a).isSome
def hidT (h : Heap) (H : Hp) : Heap := PySem.W.hideAll h (trk h H)
theorem hidT_size (h : Heap) (H : Hp) : (hidT h H).objs.size = h.objs.size := PySem.W.hideAll_size _ _
theorem hidT_get {h : Heap} {H : Hp} {b : Addr} {o : Obj} (e : h.get? b = some o) (n : H b = none) : (hidT h H).get? b = some o :=
  PySem.W.hideAll_get _ e fun hm => by
    have q : (H b).isSome = true := (List.mem_filter.mp hm).2
    rw [n] at q; simp at q
theorem of_hidT {h : Heap} {H : Hp} {b : Addr} {o : Obj} (e : (hidT h H).get? b = some o) : h.get? b = some o ∧ H b = none := by
  have e' : h.get? b = some o := PySem.W.of_hideAll (trk h H) e
  refine ⟨e', ?_⟩
  cases q : H b with
  | none => rfl
  | some x =>
    have hm : b ∈ trk h H := List.mem_filter.mpr ⟨List.mem_range.mpr (Heap.lt_size e'), by simp [q]⟩
    have z : (hidT h H).get? b = none := PySem.W.hideAll_none (trk h H) hm
    rw [z] at e; cases e
def allNews (g h : Heap) (L : Addr) : List (Addr × Obj) := (List.range h.objs.size).filterMap fun a => if a = L ∨ (g.get? a).isSome = true then none else (h.get? a).map fun o => (a, o)
def rest (g h : Heap) (L d : Addr) : List (Addr × Obj) := (allNews g h L).filter fun p => decide (p.1 ≠ d)
end L2
namespace L2
open PySem PySem.Spec PyProof.Rows
/-- the module's facts, over the base: the heap at the law's entry without what is tracked there -/
structure Mod (K : PySem.W.Frag) (mg : Str → Option Value) (base : Heap) : Prop where
  kin : K.In base
  glob : base.Ns mainGlobals mg
  blt : ∃ mb, base.Ns builtinsNs mb ∧ ∀ x : Str, x ≠ "__name__" → mb x = bootBuiltins x
  nolimit : base.NoLimit
/-- the context: a def's body (or a comprehension's block) running. base: fixed through the whole law; s₀, H₀: the entry; outer: the frames whose slots others may change (a def's callers); stack: all frames that run;
   ex: iterators that were made ahead of the entry and are walked here (a comprehension's); fn: the names whose cells were made at the entry (a def: all; a comprehension's block: its own); calm: not within an except suite; pn: pins that every state bears; xe: what is wanted of an exception that leaves the code -/
structure Cx where
  prog : Program
  w : World
  K : PySem.W.Frag
  mg : Str → Option Value
  base : Heap
  A : Around
  N : List Str
  s_0 : Shared
  H_0 : Hp
  env : Env
  outer : List Env
  stack : List Env
  ex : List Addr
  fn : Str → Bool
  calm : Bool
  pn : List (Addr × Obj)
  xe : Value → Shared → Prop
/-- the callers' frames -/
def frs (l : List Env) : List Addr := l.filterMap (·.frame)
abbrev Cx.fs (X : Cx) : List Addr := frs X.outer
def Vis (sc : Scope) (x : Str) : Prop := sc.names.lookup x = some .local ∨ sc.names.lookup x = some .cell ∨ sc.names.lookup x = some .free
def Loc (sc : Scope) (x : Str) : Prop := sc.names.lookup x = some .local ∨ sc.names.lookup x = some .cell
def Look (env : Env) (h : Heap) (m : Str → Option Value) (x : Str) (u : Value) : Prop :=
  (env.kindOf x = some .local ∧ m x = some u) ∨ ((env.kindOf x = some .cell ∨ env.kindOf x = some .free) ∧ ∃ c, env.cells.lookup x = some c ∧ h.IsCell c (some u))
structure Cx.Ok (X : Cx) : Prop where
  mod : Mod X.K X.mg X.base
  kind : X.env.scope.kind = .function
  glob : X.env.globals = mainGlobals
  blt : X.env.builtins = builtinsNs
  above : X.s_0.heap.objs.size ≤ X.env.locals
  inj : ∀ x y c, X.env.cells.lookup x = some c → X.env.cells.lookup y = some c → x = y
  has : ∀ x, (X.env.kindOf x = some .cell ∨ X.env.kindOf x = some .free) → ∃ c, X.env.cells.lookup x = some c
  cab : ∀ x c, X.fn x = true → X.env.cells.lookup x = some c → X.s_0.heap.objs.size ≤ c
  hd : X.calm = true → X.A.handled = none
  frames : X.A.frames = some X.stack
  stk : X.stack = X.outer ∨ (X.stack = X.env :: X.outer ∧ X.env.frame = some X.env.locals)
  exf : ∀ b ∈ X.ex, b ≠ X.env.locals ∧ ∀ x c, X.env.cells.lookup x = some c → c ≠ b
  bs : ∀ b o, X.base.get? b = some o → X.s_0.heap.get? b = some o ∧ X.H_0 b = none
  bsz : X.base.objs.size ≤ X.s_0.heap.objs.size
  noex : ∀ b o, X.base.get? b = some o → b ∉ X.ex
  exfs : ∀ b ∈ X.ex, b ∉ X.fs
  funs : X.s_0.heap.FunFrames X.base X.outer
  frf : ∀ b ∈ X.fs, X.H_0 b = none
structure Inv (X : Cx) (pins : List (Addr × Obj)) (σ : List (Option V)) (H : Hp) (s : Shared) : Prop where
  ok : X.Ok
  os : s.os = X.s_0.os
  bare : AllBare s.gens
  base : Un X.fs X.ex X.H_0 H X.s_0.heap s.heap
  loc : ∃ m, s.heap.Ns X.env.locals m ∧ ∀ (i : Nat) (x : Str) (v : V), X.N[i]? = some x → σ[i]? = some (some v) → Vis X.env.scope x → ∃ u, RelV v u ∧ Look X.env s.heap m x u
  cell : ∀ x c, X.env.cells.lookup x = some c → ∃ v, s.heap.IsCell c v
  free : H X.env.locals = none
  freeC : ∀ x c, X.env.cells.lookup x = some c → H c = none
  pin : ∀ p ∈ X.pn ++ pins, s.heap.get? p.1 = some p.2 ∧ H p.1 = none ∧ p.1 ≠ X.env.locals ∧ p.1 ∉ X.fs ∧ ∀ v, p.2.data ≠ .cell v
  hok : HOk X.prog X.w H s.heap
  len : σ.length = X.N.length
section
variable {X : Cx} {pins : List (Addr × Obj)} {σ : List (Option V)} {H H' : Hp} {s : Shared} {h' : Heap}
theorem Cx.Ok.nofr (ok : X.Ok) {b : Addr} {o : Obj} (e : X.base.get? b = some o) : b ∉ X.fs := fun hb => by
  have := (ok.funs.mem hb).1
  rw [e] at this; cases this
theorem Inv.bs (I : Inv X pins σ H s) : ∀ b o, X.base.get? b = some o → s.heap.get? b = some o ∧ H b = none := fun b o e =>
  ⟨I.base.keep b o (I.ok.bs b o e).1 (I.ok.bs b o e).2 (I.ok.nofr e) (I.ok.noex b o e), I.base.free b o (I.ok.bs b o e).1 (I.ok.bs b o e).2 (I.ok.noex b o e)⟩
theorem Inv.bk (I : Inv X pins σ H s) : ∀ b o, X.base.get? b = some o → s.heap.get? b = some o := fun b o e => (I.bs b o e).1
theorem Inv.mod (I : Inv X pins σ H s) : Mod X.K X.mg X.base := I.ok.mod
theorem Inv.kIn (I : Inv X pins σ H s) : X.K.In s.heap := I.ok.mod.kin.keeps I.bk
theorem Inv.nolimit (I : Inv X pins σ H s) : s.heap.NoLimit := I.ok.mod.nolimit.keeps I.bk
/-- the frame over the base: for OpenK's rules (K.In X.base is I.mod.kin) -/
theorem Inv.fr (I : Inv X pins σ H s) : ∃ m, Fr X.base X.env.locals s.heap m :=
  let ⟨m, hn, _⟩ := I.loc
  ⟨m, hn, I.bk, Nat.le_trans I.ok.bsz I.ok.above⟩
theorem Inv.lt (I : Inv X pins σ H s) : X.env.locals < s.heap.objs.size := let ⟨_, hn, _⟩ := I.loc; hn.lt
theorem Inv.sz (I : Inv X pins σ H s) : X.s_0.heap.objs.size ≤ s.heap.objs.size := Nat.le_trans I.ok.above (Nat.le_of_lt I.lt)
theorem Inv.nofs (I : Inv X pins σ H s) {a : Addr} (h : s.heap.objs.size ≤ a) : a ∉ X.fs := fun hb => by
  obtain ⟨_, o, ho, _⟩ := I.ok.funs.mem hb
  exact absurd (Nat.lt_of_lt_of_le (Heap.lt_size ho) (Nat.le_trans I.sz h)) (Nat.lt_irrefl _)
theorem Inv.cne (I : Inv X pins σ H s) : ∀ x c, X.env.cells.lookup x = some c → c ≠ X.env.locals := fun x c e z => by
  obtain ⟨v, o, ho, hd⟩ := I.cell x c e
  obtain ⟨m, ⟨o', es, ep, ho', hd', _⟩, _⟩ := I.loc
  rw [z, ho'] at ho; cases ho; rw [hd'] at hd; cases hd
theorem Inv.funs (I : Inv X pins σ H s) : s.heap.FunFrames X.base X.outer := by
  have all : ∀ (l : List Env), (∀ b ∈ frs l, b ∈ X.fs) → X.s_0.heap.FunFrames X.base l → s.heap.FunFrames X.base l := by
    intro l
    induction l with
    | nil => intro _ _; trivial
    | cons env r ih =>
      intro hs hl
      obtain ⟨hk, ⟨L, o, hf, hn, ho, hd⟩, hr⟩ := hl
      have hL : L ∈ X.fs := hs L (by unfold frs; rw [List.filterMap_cons, hf]; exact List.mem_cons_self)
      obtain ⟨sl, e⟩ := I.base.slot L o ho (I.ok.frf L hL) hL fun z => I.ok.exfs L z hL
      exact ⟨hk, ⟨L, _, hf, hn, e, hd⟩, ih (fun b hb => hs b (by unfold frs; rw [List.filterMap_cons, hf]; exact List.mem_cons_of_mem _ hb)) hr⟩
  exact all X.outer (fun _ hb => hb) I.ok.funs
/-- the frames that run, for a call -/
theorem Inv.stack (I : Inv X pins σ H s) : s.heap.FunFrames X.base X.stack := by
  rcases I.ok.stk with e | ⟨e, hf⟩
  · rw [e]; exact I.funs
  · rw [e]
    obtain ⟨m, hn, _⟩ := I.loc
    refine .cons (by rw [I.ok.kind]; decide) hf hn ?_ I.funs
    exact Heap.get?_none_of_le (Nat.le_trans I.ok.bsz I.ok.above)
theorem Inv.stkSub (I : Inv X pins σ H s) : ∀ b ∈ frs X.stack, b ∈ X.env.locals :: X.fs := fun b hb => by
  rcases I.ok.stk with e | ⟨e, hf⟩
  · rw [e] at hb; exact List.mem_cons_of_mem _ hb
  · rw [e] at hb
    unfold frs at hb
    rw [List.filterMap_cons, hf] at hb
    exact hb
theorem Inv.stkFree (I : Inv X pins σ H s) : ∀ b ∈ frs X.stack, H b = none := fun b hb => by
  rcases List.mem_cons.mp (I.stkSub b hb) with e | hb
  · rw [e]; exact I.free
  · obtain ⟨_, o, ho, _⟩ := I.ok.funs.mem hb
    exact I.base.free b o ho (I.ok.frf b hb) fun z => I.ok.exfs b z hb
/-- THE STEP: the untracked objects but the frame and the records at ch are kept (the callers' frames up to slots), the frame's map is kept, the new abstract heap is held -/
theorem Inv.step {g' : Array GenState} {t' : Nat} {d' : Drawn} {ch : List Addr} (I : Inv X pins σ H s)
    (hch : ∀ b ∈ ch, (b ∈ X.ex ∨ X.s_0.heap.objs.size ≤ b) ∧ b ≠ X.env.locals ∧ (∀ x c, X.env.cells.lookup x = some c → c ≠ b) ∧ ∀ p ∈ X.pn ++ pins, p.1 ≠ b)
    (keep : ∀ b o, b ≠ X.env.locals → b ∉ X.fs → b ∉ ch → s.heap.get? b = some o → H b = none → h'.get? b = some o)
    (slot : ∀ b o, b ≠ X.env.locals → b ∈ X.fs → b ∉ ch → s.heap.get? b = some o → H b = none → ∃ sl, h'.get? b = some { o with slots := sl }) (free : ∀ b o, b ∉ ch → s.heap.get? b = some o → H b = none → H' b = none)
    (there : ∀ b o, b ∉ ch → s.heap.get? b = some o → ∃ o', h'.get? b = some o')
    (tups : ∀ b xs, H b = some (.tup xs) → H' b = some (.tup xs)) (frzs : ∀ b o u, H b = some (.frz o u) → H' b = some (.frz o u)) (tbls : ∀ b ps, H b = some (.tbl ps) → ∃ more, H' b = some (.tbl (ps ++ more)))
    (ns : ∀ m, s.heap.Ns X.env.locals m → h'.Ns X.env.locals m) (hok : HOk X.prog X.w H' h') (hg : AllBare g') :
    Inv X pins σ H' { s with heap := h', gens := g', drawn := d', toks := t' } := by
  have neL : ∀ b o, X.s_0.heap.get? b = some o → b ≠ X.env.locals := fun b o e => Nat.ne_of_lt (Nat.lt_of_lt_of_le (Heap.lt_size e) I.ok.above)
  have neC : ∀ b o, X.s_0.heap.get? b = some o → b ∉ X.ex → b ∉ ch := fun b o e hx hb => by
    rcases (hch b hb).1 with z | z
    · exact hx z
    · exact absurd (Nat.lt_of_lt_of_le (Heap.lt_size e) z) (Nat.lt_irrefl _)
  have cellK : ∀ x c, X.env.cells.lookup x = some c → ∀ v, s.heap.IsCell c v → h'.IsCell c v := fun x c e v ⟨o, ho, hd⟩ => by
    have nch : c ∉ ch := fun z => (hch c z).2.2.1 x c e rfl
    by_cases hc : c ∈ X.fs
    · obtain ⟨sl, q⟩ := slot c o (I.cne x c e) hc nch ho (I.freeC x c e)
      exact ⟨_, q, hd⟩
    · exact ⟨o, keep c o (I.cne x c e) hc nch ho (I.freeC x c e), hd⟩
  refine ⟨I.ok, I.os, hg, ⟨fun b o e n hb hx => ?_, fun b o e n hb hx => ?_, fun b o e n hx => ?_, fun b o e hx => ?_, fun b xs e => tups b xs (I.base.tups b xs e), fun b o xs e => frzs b o xs (I.base.frzs b o xs e), fun b ps e => ?_⟩, ?_, fun x c e => ?_, ?_, fun x c e => ?_, fun p hp => ?_, hok, I.len⟩
  · exact keep b o (neL b o e) hb (neC b o e hx) (I.base.keep b o e n hb hx) (I.base.free b o e n hx)
  · obtain ⟨sl, e1⟩ := I.base.slot b o e n hb hx
    obtain ⟨sl', e2⟩ := slot b _ (neL b o e) hb (neC b o e hx) e1 (I.base.free b o e n hx)
    exact ⟨sl', e2⟩
  · obtain ⟨o', e1⟩ := I.base.there b o e hx
    exact free b o' (neC b o e hx) e1 (I.base.free b o e n hx)
  · obtain ⟨o', e1⟩ := I.base.there b o e hx
    exact there b o' (neC b o e hx) e1
  · obtain ⟨m1, e1⟩ := I.base.tbls b ps e
    obtain ⟨m2, e2⟩ := tbls b _ e1
    exact ⟨m1 ++ m2, by rw [e2, Array.append_assoc]⟩
  · obtain ⟨m, hn, hl⟩ := I.loc
    refine ⟨m, ns m hn, fun i x v e1 e2 e3 => ?_⟩
    obtain ⟨u, r, l⟩ := hl i x v e1 e2 e3
    refine ⟨u, r, ?_⟩
    rcases l with l | ⟨k, c, e, z⟩
    · exact .inl l
    · exact .inr ⟨k, c, e, cellK x c e _ z⟩
  · obtain ⟨v, z⟩ := I.cell x c e
    exact ⟨v, cellK x c e v z⟩
  · obtain ⟨m, ⟨o, _, _, ho, _⟩, _⟩ := I.loc
    exact free _ o (fun z => (hch _ z).2.1 rfl) ho I.free
  · obtain ⟨v, o, ho, hd⟩ := I.cell x c e
    exact free c o (fun z => (hch c z).2.2.1 x c e rfl) ho (I.freeC x c e)
  · obtain ⟨e, n, ne, nf, d⟩ := I.pin p hp
    have nch : p.1 ∉ ch := fun z => (hch p.1 z).2.2.2 p hp rfl
    exact ⟨keep p.1 p.2 ne nf nch e n, free p.1 p.2 nch e n, ne, nf, d⟩
/-- .. where the frame's own object is kept too -/
theorem Inv.un {t' : Nat} (I : Inv X pins σ H s) (u : Un X.fs [] H H' s.heap h') (hok : HOk X.prog X.w H' h') : Inv X pins σ H' { s with heap := h', toks := t' } := by
  obtain ⟨m, ⟨o, es, ep, ho, r⟩, _⟩ := id I.loc
  obtain ⟨sl, hL⟩ := u.any ho I.free (by simp)
  exact I.step (g' := s.gens) (d' := s.drawn) (ch := []) (fun _ z => nomatch z) (fun b o _ hb _ e n => u.keep b o e n hb (by simp)) (fun b o _ hb _ e n => u.slot b o e n hb (by simp)) (fun b o _ e n => u.free b o e n (by simp)) (fun b o _ e => u.there b o e (by simp)) u.tups u.frzs u.tbls (fun m' hm => by
    obtain ⟨o', es', ep', ho', r'⟩ := hm
    rw [ho] at ho'; cases ho'
    exact ⟨_, es', ep', hL, r'⟩) hok I.bare
/-- behind a call (or a comprehension's block): the slots of this frame may have changed too, the records at ch may have turned -/
theorem Inv.call {g' : Array GenState} {t' : Nat} {d' : Drawn} {ch : List Addr} (I : Inv X pins σ H s) (u : Un (frs X.stack) ch H H' s.heap h') (hok : HOk X.prog X.w H' h') (hg : AllBare g')
    (hch : ∀ b ∈ ch, (b ∈ X.ex ∨ X.s_0.heap.objs.size ≤ b) ∧ b ≠ X.env.locals ∧ (∀ x c, X.env.cells.lookup x = some c → c ≠ b) ∧ ∀ p ∈ X.pn ++ pins, p.1 ≠ b) :
    Inv X pins σ H' { s with heap := h', gens := g', drawn := d', toks := t' } := by
  obtain ⟨m, ⟨o, es, ep, ho, r⟩, _⟩ := id I.loc
  obtain ⟨sl, hL⟩ := u.any ho I.free fun z => (hch _ z).2.1 rfl
  exact I.step (ch := ch) hch (fun b o hL hb hc e n => u.keep b o e n (fun z => (List.mem_cons.mp (I.stkSub b z)).elim hL hb) hc) (fun b o _ _ hc e n => u.any e n hc) (fun b o hc e n => u.free b o e n hc) (fun b o hc e => u.there b o e hc) u.tups u.frzs u.tbls (fun m' hm => by
    obtain ⟨o', es', ep', ho', r'⟩ := hm
    rw [ho] at ho'; cases ho'
    exact ⟨_, es', ep', hL, r'⟩) hok hg
/-- an untracked record of ours (an iterator) has turned -/
theorem Inv.turned {t' : Nat} {it : Addr} (I : Inv X pins σ H s) (k : ∀ b o, b ≠ it → s.heap.get? b = some o → h'.get? b = some o) (hn : H it = none) (hL : it ≠ X.env.locals)
    (h1 : it ∈ X.ex ∨ X.s_0.heap.objs.size ≤ it) (h2 : ∀ x c, X.env.cells.lookup x = some c → c ≠ it) (h3 : ∀ p ∈ X.pn ++ pins, p.1 ≠ it) : Inv X pins σ H { s with heap := h', toks := t' } := by
  have nit : ∀ b u, H b = some u → b ≠ it := fun b u e z => by rw [z, hn] at e; cases e
  refine I.step (g' := s.gens) (d' := s.drawn) (ch := [it]) (fun b hb => ?_) (fun b o _ _ hc e _ => k b o (fun z => hc (by simp [z])) e) (fun b o _ _ hc e _ => ⟨o.slots, k b o (fun z => hc (by simp [z])) e⟩) (fun _ _ _ _ n => n)
    (fun b o hc e => ⟨o, k b o (fun z => hc (by simp [z])) e⟩) (fun _ _ e => e) (fun _ _ _ e => e) (fun b ps e => ⟨#[], by rw [e]; simp⟩) (fun m hm => ?_) (fun b u e => ?_) I.bare
  · have e : b = it := by simpa using hb
    subst e
    exact ⟨h1, hL, h2, h3⟩
  · obtain ⟨o, es, ep, ho, r⟩ := hm
    exact ⟨o, es, ep, k _ o (Ne.symm hL) ho, r⟩
  · refine (I.hok b u e).stay (fun c v hc q => k c v ?_ q) (fun _ q => q) fun _ _ q => q
    rcases hc with z | z
    · rw [z]; exact nit b u e
    · exact nit c _ z
theorem Inv.tok (I : Inv X pins σ H s) (t : Nat) : Inv X pins σ H { s with toks := t } := I.un (h' := s.heap) (t' := t) Un.refl I.hok
/-- all objects kept -/
theorem Inv.kept {t' : Nat} (I : Inv X pins σ H s) (k : ∀ b u, s.heap.get? b = some u → h'.get? b = some u) : Inv X pins σ H { s with heap := h', toks := t' } := I.un (Un.kept k) (I.hok.kept k)
/-- a new object laid and tracked -/
theorem Inv.laid {a : Addr} {o : HO} {t' : Nat} (I : Inv X pins σ H s) (k : ∀ b u, s.heap.get? b = some u → h'.get? b = some u) (hp : s.heap.objs.size ≤ a) (new : ObjOk X.prog X.w (upd H a o) h' a o) :
    Inv X pins σ (upd H a o) { s with heap := h', toks := t' } := I.un (Un.laid k hp (I.hok.fresh hp)) (I.hok.laid k hp new)
/-- an object written -/
theorem Inv.write {x e : Addr} {o : HO} {t' : Nat} (I : Inv X pins σ H s) (mu : Mut (H x)) (he : e = x ∨ H e = some (.own x)) (k : ∀ b u, b ≠ e → s.heap.get? b = some u → h'.get? b = some u) (heo : ∃ u, h'.get? e = some u)
    (new : ObjOk X.prog X.w (upd H x o) h' x o) : Inv X pins σ (upd H x o) { s with heap := h', toks := t' } := I.un (Un.write mu he k heo) (I.hok.write mu he k heo new)
/-- forgetting slots, pins -/
theorem Inv.weak {σ' : List (Option V)} (I : Inv X pins σ H s) (hl : σ'.length = σ.length) (w : ∀ (i : Nat) v, σ'[i]? = some (some v) → σ[i]? = some (some v)) : Inv X pins σ' H s :=
  ⟨I.ok, I.os, I.bare, I.base, let ⟨m, hn, hl'⟩ := I.loc; ⟨m, hn, fun i x v e1 e2 e3 => hl' i x v e1 (w i v e2) e3⟩, I.cell, I.free, I.freeC, I.pin, I.hok, hl.trans I.len⟩
theorem Inv.pins_of {pins' : List (Addr × Obj)} (I : Inv X pins σ H s) (h : ∀ p ∈ pins', s.heap.get? p.1 = some p.2 ∧ H p.1 = none ∧ p.1 ≠ X.env.locals ∧ p.1 ∉ X.fs ∧ ∀ v, p.2.data ≠ .cell v) : Inv X pins' σ H s :=
  ⟨I.ok, I.os, I.bare, I.base, I.loc, I.cell, I.free, I.freeC, fun p hp => (List.mem_append.mp hp).elim (fun z => I.pin p (List.mem_append_left _ z)) (h p), I.hok, I.len⟩
theorem nodup_ix {N : List Str} (hN : N.Nodup) {i j : Nat} {x : Str} (a : N[i]? = some x) (b : N[j]? = some x) : i = j := by
  obtain ⟨h1, e1⟩ := List.getElem?_eq_some_iff.mp a
  obtain ⟨h2, e2⟩ := List.getElem?_eq_some_iff.mp b
  exact (List.getElem_inj hN).mp (e1.trans e2.symm)
/-- a name is stored; what changed -/
theorem store_ok2 {M : Model} {A : Around} {E : Value → Shared → Prop} {i : Nat} {x : Str} {v : V} {u : Value} {Q : Unit → Shared → Prop} (I : Inv X pins σ H s) (hN : X.N.Nodup) (hi : X.N[i]? = some x) (hx : Loc X.env.scope x) (r : RelV v u)
    (h : ∀ s', Inv X pins (σ.set i (some v)) H s' → (∃ a, Heap.SameBut a s.heap s'.heap ∧ (a = X.env.locals ∨ X.env.cells.lookup x = some a)) → Q () s') (hf : X.fn x = true ∨ X.env.scope.names.lookup x = some .local := by first | exact .inl rfl | exact .inr rfl | assumption) : wpAny M A (storeName X.env x u) Q E s := by
  obtain ⟨m, hn, hl⟩ := id I.loc
  have hcls : (X.env.scope.kind == .class || (X.env.scope.kind == .module && X.env.locals != X.env.globals)) = false := by rw [I.ok.kind]; rfl
  have hiσ : i < σ.length := by rw [I.len]; exact (List.getElem?_eq_some_iff.mp hi).1
  have cne := I.cne
  have tracked : ∀ {a : Addr} {h' : Heap}, (∃ o, s.heap.get? a = some o ∧ H a = none) → Heap.SameBut a s.heap h' → HOk X.prog X.w H h' := fun {a h'} ha hs b ob e => by
    obtain ⟨_, _, hfree⟩ := ha
    refine (I.hok b ob e).stay (fun c w' hc q => (hs.2 c ?_).trans q) (fun _ q => q) fun _ _ q => q
    rintro rfl
    rcases hc with rfl | hc
    · rw [hfree] at e; cases e
    · rw [hfree] at hc; cases hc
  rcases hx with hk | hk
  · refine wpAny_storeName_local hk hn (fun h' hn' hs => ?_) hcls
    obtain ⟨oL, _, _, hoL, _⟩ := id hn
    refine h _ ⟨I.ok, I.os, I.bare, ⟨fun b o e n hb hx => ?_, fun b o e n hb hx => ?_, I.base.free, fun b o e hx => ?_, I.base.tups, I.base.frzs, I.base.tbls⟩, ⟨_, hn', fun j y v' e1 e2 e3 => ?_⟩, fun y c e => ?_, I.free, I.freeC, fun p hp => ?_, tracked ⟨oL, hoL, I.free⟩ hs, by simpa using I.len⟩ ⟨_, hs, .inl rfl⟩
    · exact (hs.2 b (Nat.ne_of_lt (Nat.lt_of_lt_of_le (Heap.lt_size e) I.ok.above))).trans (I.base.keep b o e n hb hx)
    · obtain ⟨sl, e1⟩ := I.base.slot b o e n hb hx
      exact ⟨sl, (hs.2 b (Nat.ne_of_lt (Nat.lt_of_lt_of_le (Heap.lt_size e) I.ok.above))).trans e1⟩
    · obtain ⟨o', e1⟩ := I.base.there b o e hx
      exact ⟨o', (hs.2 b (Nat.ne_of_lt (Nat.lt_of_lt_of_le (Heap.lt_size e) I.ok.above))).trans e1⟩
    · by_cases hj : j = i
      · subst hj
        rw [hi] at e1; cases e1
        rw [List.getElem?_set_self hiσ] at e2
        cases e2
        exact ⟨u, r, .inl ⟨hk, by simp⟩⟩
      · rw [List.getElem?_set_ne (Ne.symm hj)] at e2
        obtain ⟨u', r', q⟩ := hl j y v' e1 e2 e3
        refine ⟨u', r', ?_⟩
        rcases q with ⟨k, e⟩ | ⟨k, c, e, z⟩
        · refine .inl ⟨k, ?_⟩
          have : y ≠ x := fun e => hj (nodup_ix hN e1 (e ▸ hi))
          simp [this, e]
        · exact .inr ⟨k, c, e, z.sameBut hs (cne y c e)⟩
    · obtain ⟨w', z⟩ := I.cell y c e
      exact ⟨w', z.sameBut hs (cne y c e)⟩
    · obtain ⟨e, n, ne, nf, d⟩ := I.pin p hp
      exact ⟨(hs.2 p.1 ne).trans e, n, ne, nf, d⟩
  · have hfn : X.fn x = true := by
      rcases hf with z | z
      · exact z
      · rw [z] at hk; cases hk
    obtain ⟨c, hc⟩ := I.ok.has x (.inl hk)
    obtain ⟨w', z⟩ := I.cell x c hc
    refine wpAny_storeName_cell I.ok.kind hk hc z (fun h' hc' hs => ?_)
    obtain ⟨oc, hoc, hocd⟩ := id z
    refine h { s with heap := h' } ⟨I.ok, I.os, I.bare, ⟨fun b o e n hb hx => ?_, fun b o e n hb hx => ?_, I.base.free, fun b o e hx => ?_, I.base.tups, I.base.frzs, I.base.tbls⟩, ⟨m, hn.sameBut hs (Ne.symm (cne x c hc)), fun j y v' e1 e2 e3 => ?_⟩, fun y c' e => ?_, I.free, I.freeC, fun p hp => ?_, tracked ⟨oc, hoc, I.freeC x c hc⟩ hs, by simpa using I.len⟩ ⟨c, hs, .inr hc⟩
    · exact (hs.2 b (Nat.ne_of_lt (Nat.lt_of_lt_of_le (Heap.lt_size e) (I.ok.cab x c hfn hc)))).trans (I.base.keep b o e n hb hx)
    · obtain ⟨sl, e1⟩ := I.base.slot b o e n hb hx
      exact ⟨sl, (hs.2 b (Nat.ne_of_lt (Nat.lt_of_lt_of_le (Heap.lt_size e) (I.ok.cab x c hfn hc)))).trans e1⟩
    · obtain ⟨o', e1⟩ := I.base.there b o e hx
      exact ⟨o', (hs.2 b (Nat.ne_of_lt (Nat.lt_of_lt_of_le (Heap.lt_size e) (I.ok.cab x c hfn hc)))).trans e1⟩
    · by_cases hj : j = i
      · subst hj
        rw [hi] at e1; cases e1
        rw [List.getElem?_set_self hiσ] at e2
        cases e2
        exact ⟨u, r, .inr ⟨.inl hk, c, hc, hc'⟩⟩
      · rw [List.getElem?_set_ne (Ne.symm hj)] at e2
        obtain ⟨u', r', q⟩ := hl j y v' e1 e2 e3
        refine ⟨u', r', ?_⟩
        rcases q with q | ⟨k, c', e, z'⟩
        · exact .inl q
        · refine .inr ⟨k, c', e, z'.sameBut hs ?_⟩
          rintro rfl
          exact hj (nodup_ix hN e1 (I.ok.inj _ _ _ e hc ▸ hi))
    · by_cases hcc : c' = c
      · subst hcc; exact ⟨_, hc'⟩
      · obtain ⟨w2, z2⟩ := I.cell y c' e
        exact ⟨w2, z2.sameBut hs hcc⟩
    · obtain ⟨e, n, ne, nf, d⟩ := I.pin p hp
      refine ⟨(hs.2 p.1 ?_).trans e, n, ne, nf, d⟩
      intro q
      rw [q, hoc] at e
      have q' : oc = p.2 := Option.some.inj e
      exact d w' (by rw [← q']; exact hocd)
theorem store_ok {M : Model} {A : Around} {E : Value → Shared → Prop} {i : Nat} {x : Str} {v : V} {u : Value} {Q : Unit → Shared → Prop} (I : Inv X pins σ H s) (hN : X.N.Nodup) (hi : X.N[i]? = some x) (hx : Loc X.env.scope x) (r : RelV v u)
    (h : ∀ s', Inv X pins (σ.set i (some v)) H s' → Q () s') (hf : X.fn x = true ∨ X.env.scope.names.lookup x = some .local := by first | exact .inl rfl | exact .inr rfl | assumption) : wpAny M A (storeName X.env x u) Q E s :=
  store_ok2 I hN hi hx r (fun s' I' _ => h s' I') hf
/-- behind a call or a block, the state as it is -/
theorem Inv.call' {s' : Shared} {ch : List Addr} (I : Inv X pins σ H s) (ho : s'.os = s.os) (u : Un (frs X.stack) ch H H' s.heap s'.heap) (hok : HOk X.prog X.w H' s'.heap) (hg : AllBare s'.gens)
    (hch : ∀ b ∈ ch, (b ∈ X.ex ∨ X.s_0.heap.objs.size ≤ b) ∧ b ≠ X.env.locals ∧ (∀ x c, X.env.cells.lookup x = some c → c ≠ b) ∧ ∀ p ∈ X.pn ++ pins, p.1 ≠ b) : Inv X pins σ H' s' := by
  obtain ⟨h', g', d', t', o'⟩ := s'
  have e : o' = s.os := ho
  subst e
  exact I.call (g' := g') (t' := t') (d' := d') u hok hg hch
end
/-- an exception: its class, its own dict's address (where it has one), the abstract heap behind it -/
abbrev XK := Value → Option Addr → Hp → Prop
abbrev St := List (Option V)
abbrev VK := V → Hp → Prop
/-- an expression's reading; a test's; an argument list's -/
abbrev TE := St → Hp → VK → Prop
abbrev TT := St → Hp → (Bool → Hp → Prop) → Prop
abbrev TA := St → Hp → (List V → Hp → Prop) → Prop
/-- what is wanted behind a statement -/
structure Ends where
  nx : St → Hp → Prop
  rt : VK
  bk : St → Hp → Prop := fun _ _ => False
  ct : St → Hp → Prop := fun _ _ => False
abbrev TS := Ends → St → Hp → Prop
def EP (X : Cx) (pins : List (Addr × Obj)) (σ : St) (Q : VK) (u : Value) (s' : Shared) : Prop := ∃ v H', Inv X pins σ H' s' ∧ RelV v u ∧ Q v H'
def TP (X : Cx) (pins : List (Addr × Obj)) (σ : St) (Q : Bool → Hp → Prop) (b : Bool) (s' : Shared) : Prop := ∃ H', Inv X pins σ H' s' ∧ Q b H'
def AP (X : Cx) (pins : List (Addr × Obj)) (σ : St) (Q : List V → Hp → Prop) (us : List Value) (s' : Shared) : Prop := ∃ vs H', Inv X pins σ H' s' ∧ Vals vs us ∧ Q vs H'
def SP (X : Cx) (pins : List (Addr × Obj)) (D : Ends) (f : Flow) (s' : Shared) : Prop :=
  match f with
  | .next => ∃ σ' H', Inv X pins σ' H' s' ∧ D.nx σ' H'
  | .brk => ∃ σ' H', Inv X pins σ' H' s' ∧ D.bk σ' H'
  | .cont => ∃ σ' H', Inv X pins σ' H' s' ∧ D.ct σ' H'
  | .ret u => ∃ v σ' H', Inv X pins σ' H' s' ∧ RelV v u ∧ D.rt v H'
def PE (X : Cx) (e : Expr) (t : TE) : Prop :=
  ∀ (pins : List (Addr × Obj)) (s : Shared) (σ : St) (H : Hp) (Q : VK), Inv X pins σ H s → t σ H Q → wpAny (model X.prog X.w) X.A (eval e X.env) (EP X pins σ Q) X.xe s
def PT (X : Cx) (e : Expr) (t : TT) : Prop :=
  ∀ (pins : List (Addr × Obj)) (s : Shared) (σ : St) (H : Hp) (Q : Bool → Hp → Prop), Inv X pins σ H s → t σ H Q → wpAny (model X.prog X.w) X.A (isTrue e X.env (eval e X.env)) (TP X pins σ Q) X.xe s
/-- a test whatever its 'whole' is (and, or) -/
def PW (X : Cx) (e : Expr) (t : TT) : Prop :=
  ∀ (whole : Sem Value) (pins : List (Addr × Obj)) (s : Shared) (σ : St) (H : Hp) (Q : Bool → Hp → Prop), Inv X pins σ H s → t σ H Q → wpAny (model X.prog X.w) X.A (isTrue e X.env whole) (TP X pins σ Q) X.xe s
theorem PW.pt {X : Cx} {e : Expr} {t : TT} (h : PW X e t) : PT X e t := h _
/-- an argument list (no star), from the left -/
def PA (X : Cx) (es : List Expr) (t : TA) : Prop :=
  ∀ (pos : Pos) (pins : List (Addr × Obj)) (s : Shared) (σ : St) (H : Hp) (Q : List V → Hp → Prop), Inv X pins σ H s → t σ H Q → wpAny (model X.prog X.w) X.A (spliced (backTo pos (starEach es X.env))) (AP X pins σ Q) X.xe s
def PS (X : Cx) (st : Stmt) (t : TS) : Prop :=
  ∀ (pins : List (Addr × Obj)) (s : Shared) (σ : St) (H : Hp) (D : Ends), Inv X pins σ H s → t D σ H → wpAny (model X.prog X.w) X.A (exec st X.env) (SP X pins D) X.xe s
def PSs (X : Cx) (st : List Stmt) (t : TS) : Prop :=
  ∀ (pins : List (Addr × Obj)) (s : Shared) (σ : St) (H : Hp) (D : Ends), Inv X pins σ H s → t D σ H → wpAny (model X.prog X.w) X.A (execs st X.env) (SP X pins D) X.xe s
/-- weaken the end -/
theorem thn {α : Type} {t : Sem α} {Q Q' : α → Shared → Prop} {M : Model} {A : Around} {E : Value → Shared → Prop} {s : Shared} (h : wpAny M A t Q E s) (hQ : ∀ a s, Q a s → Q' a s) : wpAny M A t Q' E s := wpAny_mono h hQ fun _ _ x => x
end L2
namespace L2
open PySem PySem.Spec PyProof.Rows
section
variable {X : Cx}
def tVar (i : Nat) : TE := fun σ H Q => ∃ v, σ[i]? = some (some v) ∧ Q v H
def tC (v : V) : TE := fun _ H Q => Q v H
theorem pe_var {i : Nat} {x : Str} {pos : Pos} (hN : X.N[i]? = some x) (hv : Vis X.env.scope x) (hd : (x == ("__debug__" : Str)) = false := by decide) (hcd : (x == ("__classdict__" : Str)) = false := by decide) : PE X (.Name x pos) (tVar i) := by
  intro pins s σ H Q I h
  obtain ⟨v, e, h⟩ := h
  obtain ⟨m, hn, hl⟩ := I.loc
  obtain ⟨u, r, l⟩ := hl i x v hN e hv
  have fin : EP X pins σ Q u s := ⟨v, H, I, r, h⟩
  rcases l with ⟨hk, hm⟩ | ⟨hk, c, hc, hcell⟩
  · exact wpAny_Name (wpAny_loadName_local I.ok.kind hk hn hm fin) hd
  · rcases hk with hk | hk
    · exact wpAny_Name (wpAny_loadName_cell I.ok.kind hk hc hcell fin) hd
    · exact wpAny_Name (wpAny_loadName_free I.ok.kind hk hc hcell fin hcd) hd
theorem pe_int {i j pos} : PE X (.Constant (.int i) j pos) (tC (.int i)) := fun _ _ _ H _ I h => wpAny_Constant_int ⟨.int i, H, I.tok _, ⟨_, rfl⟩, h⟩
theorem pe_bl {b j pos} : PE X (.Constant (.bool b) j pos) (tC (.bl b)) := fun _ _ _ H _ I h => Constant_bool ⟨.bl b, H, I, rfl, h⟩
theorem pe_non {j pos} : PE X (.Constant .none j pos) (tC .non) := fun _ _ _ H _ I h => Constant_none ⟨.non, H, I, rfl, h⟩
theorem pe_str {x j pos} : PE X (.Constant (.str x) j pos) (tC (.str x)) := fun _ _ _ H _ I h => Calls.Constant_str ⟨.str x, H, I.tok _, ⟨_, rfl⟩, h⟩
/-- a global name of the def -/
def Gl (X : Cx) (x : Str) : Prop := X.env.kindOf x = some .globalImplicit
theorem ld_glob {E : Value → Shared → Prop} {pins : List (Addr × Obj)} {s : Shared} {σ : St} {H : Hp} {x : Str} {u : Value} {pos : Pos} {Q : Value → Shared → Prop} (I : Inv X pins σ H s) (hg : Gl X x) (hm : X.mg x = some u) (h : Q u s)
    (hd : (x == ("__debug__" : Str)) = false := by decide) : wpAny (model X.prog X.w) X.A (eval (.Name x pos) X.env) Q E s :=
  Calls.Name_function_global I.ok.kind hg (Calls.loadGlobal_global (by rw [I.ok.glob]; exact I.mod.glob.keeps I.bk) hm h) hd
theorem ld_blt {E : Value → Shared → Prop} {pins : List (Addr × Obj)} {s : Shared} {σ : St} {H : Hp} {x : Str} {u : Value} {pos : Pos} {Q : Value → Shared → Prop} (I : Inv X pins σ H s) (hg : Gl X x) (hm : X.mg x = none) (hv : bootBuiltins x = some u) (h : Q u s)
    (hn : x ≠ "__name__" := by decide) (hd : (x == ("__debug__" : Str)) = false := by decide) : wpAny (model X.prog X.w) X.A (eval (.Name x pos) X.env) Q E s := by
  obtain ⟨mb, h1, h2⟩ := I.mod.blt
  exact Calls.Name_function_global I.ok.kind hg (Calls.loadGlobal_builtin (by rw [I.ok.glob]; exact I.mod.glob.keeps I.bk) hm (by rw [I.ok.blt]; exact h1.keeps I.bk) ((h2 x hn).trans hv) h) hd
/-- two ints -/
def t2I (ta tb : TE) (k : Int → Int → Hp → Prop) : St → Hp → Prop := fun σ H => ta σ H fun x H1 => tb σ H1 fun y H2 => ∃ i j, x = .int i ∧ y = .int j ∧ k i j H2
def tAdd (ta tb : TE) : TE := fun σ H Q => t2I ta tb (fun i j H2 => Q (.int (i + j)) H2) σ H
def tSub (ta tb : TE) : TE := fun σ H Q => t2I ta tb (fun i j H2 => Q (.int (i - j)) H2) σ H
/-- the left factor below 2^64 -/
def tMul (ta tb : TE) : TE := fun σ H Q => t2I ta tb (fun i j H2 => (-(2 ^ 64) < i ∧ i < 2 ^ 64) ∧ Q (.int (i * j)) H2) σ H
variable {a b : Expr} {ta tb : TE} {pos : Pos}
def PC (X : Cx) (op : CmpOp) (a b : Expr) (t : TE) : Prop :=
  ∀ (pins : List (Addr × Obj)) (s : Shared) (σ : St) (H : Hp) (Q : VK), Inv X pins σ H s → t σ H Q →
    wpAny (model X.prog X.w) X.A (eval a X.env) (fun v s₁ => wpAny (model X.prog X.w) X.A (eval b X.env) (fun u s₂ => wpAny (model X.prog X.w) X.A (compareOp op v u) (EP X pins σ Q) X.xe s₂) X.xe s₁) X.xe s
theorem nobehind (b : Expr) {op : CmpOp} (h : op ≠ .In) (h2 : op ≠ .NotIn) : behindInMarks op b = false := by
  have e1 : (op == CmpOp.In) = false := by cases op <;> first | rfl | exact absurd rfl h
  have e2 : (op == CmpOp.NotIn) = false := by cases op <;> first | rfl | exact absurd rfl h2
  cases b <;> simp [behindInMarks, e1, e2]
def tCmp (p : Int → Int → Bool) (ta tb : TE) : TE := fun σ H Q => t2I ta tb (fun i j H2 => Q (.bl (p i j)) H2) σ H
abbrev tLt : TE → TE → TE := tCmp fun i j => decide (i < j)
abbrev tLe : TE → TE → TE := tCmp fun i j => decide (i ≤ j)
abbrev tGt : TE → TE → TE := tCmp fun i j => decide (j < i)
abbrev tGe : TE → TE → TE := tCmp fun i j => decide (j ≤ i)
abbrev tEqI : TE → TE → TE := tCmp fun i j => decide (i = j)
abbrev tNeI : TE → TE → TE := tCmp fun i j => !decide (i = j)
/-- is None -/
def tIsN (ta : TE) : TE := fun σ H Q => ta σ H fun x H1 => Q (.bl (decide (x = .non))) H1
def tNotN (ta : TE) : TE := fun σ H Q => ta σ H fun x H1 => Q (.bl (!decide (x = .non))) H1
/-- a comparison as a value, as a test -/
def tB (t : TE) : TT := fun σ H Q => t σ H fun x H1 => ∃ c, x = .bl c ∧ Q c H1
theorem pt_cmp {op : CmpOp} {t : TE} (h : PC X op a b t) (h1 : behindInMarks op b = false := by first | exact nobehind _ (by decide) (by decide) | rfl) : PT X (.Compare a [op] [b] pos) (tB t) := by
  intro pins s σ H Q I hw
  refine wpAny_isTrue_Compare1 (thn (h pins s σ H _ I hw) fun v s1 h1 => thn h1 fun u s2 h2 => thn h2 fun c s3 ⟨x, H1, I1, r1, q1⟩ => ?_) h1
  obtain ⟨d, rfl, q⟩ := q1
  cases r1
  exact wpAny_truthy_bool ⟨H1, I1, q⟩
/-- an expression whose value is a bool, as a test -/
theorem pt_val {e : Expr} {t : TE} (h : PE X e t) (he : ∀ whole, isTrue e X.env whole = (do let v ← whole; standAt e.pos; holding [v] (truthy v)) := by intro _; rfl) : PT X e (tB t) := by
  intro pins s σ H Q I hw
  refine isTrue_plain (thn (h pins s σ H _ I hw) fun v s1 ⟨x, H1, I1, r1, q1⟩ => ?_) (he _)
  obtain ⟨d, rfl, q⟩ := q1
  cases r1
  exact wpAny_truthy_bool ⟨H1, I1, q⟩
variable {tA tB' : TT} {rest : List Expr}
def tAnd (t u : TT) : TT := fun σ H Q => t σ H fun c H1 => if c = true then u σ H1 Q else Q false H1
def tOr (t u : TT) : TT := fun σ H Q => t σ H fun c H1 => if c = true then Q true H1 else u σ H1 Q
def tNot (t : TT) : TT := fun σ H Q => t σ H fun c H1 => Q (!c) H1
theorem pw_and1 (ha : PT X a tA) : PW X (.BoolOp .And [a] pos) tA := by
  intro wh pins s σ H Q I h
  refine isTrue_and (thn (ha pins s σ H Q I h) fun c s1 e => ?_)
  cases c with
  | true => exact isTrue_and_nil e
  | false => exact e
theorem pw_or1 (ha : PT X a tA) : PW X (.BoolOp .Or [a] pos) tA := by
  intro wh pins s σ H Q I h
  refine isTrue_or (thn (ha pins s σ H Q I h) fun c s1 e => ?_)
  cases c with
  | false => exact isTrue_or_nil e
  | true => exact e
theorem pw_and (ha : PT X a tA) (hb : PW X (.BoolOp .And (b :: rest) pos) tB') : PW X (.BoolOp .And (a :: b :: rest) pos) (tAnd tA tB') := by
  intro wh pins s σ H Q I h
  refine isTrue_and (thn (ha pins s σ H _ I h) fun c s1 ⟨H1, I1, q1⟩ => ?_)
  cases c with
  | true => exact hb wh pins s1 σ H1 Q I1 q1
  | false => exact ⟨H1, I1, q1⟩
theorem pw_or (ha : PT X a tA) (hb : PW X (.BoolOp .Or (b :: rest) pos) tB') : PW X (.BoolOp .Or (a :: b :: rest) pos) (tOr tA tB') := by
  intro wh pins s σ H Q I h
  refine isTrue_or (thn (ha pins s σ H _ I h) fun c s1 ⟨H1, I1, q1⟩ => ?_)
  cases c with
  | true => exact ⟨H1, I1, q1⟩
  | false => exact hb wh pins s1 σ H1 Q I1 q1
theorem pt_not (ha : PT X a tA) : PT X (.UnaryOp .Not a pos) (tNot tA) := by
  intro pins s σ H Q I h
  exact isTrue_not (ha pins s σ H (fun c H1 => Q (!c) H1) I h)
/-- .. as values (bools) -/
def tAndV (ta tb : TE) : TE := fun σ H Q => ta σ H fun x H1 => ∃ c, x = .bl c ∧ if c = true then tb σ H1 Q else Q (.bl false) H1
def tOrV (ta tb : TE) : TE := fun σ H Q => ta σ H fun x H1 => ∃ c, x = .bl c ∧ if c = true then Q (.bl true) H1 else tb σ H1 Q
def tNotV (ta : TE) : TE := fun σ H Q => ta σ H fun x H1 => ∃ c, x = .bl c ∧ Q (.bl (!c)) H1
/-- a if t else b -/
def tIf (t : TT) (ta tb : TE) : TE := fun σ H Q => t σ H fun c H1 => if c = true then ta σ H1 Q else tb σ H1 Q
theorem pe_ifExp {c : Expr} (hc : PT X c tA) (ha : PE X a ta) (hb : PE X b tb) : PE X (.IfExp c a b pos) (tIf tA ta tb) := by
  intro pins s σ H Q I h
  refine wpAny_IfExp (thn (hc pins s σ H _ I h) fun d s1 ⟨H1, I1, q1⟩ => ?_)
  cases d with
  | true => exact ha pins s1 σ H1 Q I1 q1
  | false => exact hb pins s1 σ H1 Q I1 q1
end
end L2
namespace L2
open PySem PySem.Spec PyProof.Rows
def SqL (K : PySem.W.Frag) (H : Hp) (a : Addr) (xs : List V) : Prop :=
  Rd H a (.lst xs) ∨
    ∃ (o : Obj) (its : Array Value) (n : Nat), K.lookup a = some o ∧ o.cls = .type "list" ∧ o.dict = none ∧ o.data = .seq its n ∧ its.size ≤ sizeLine ∧ Vals xs its.toList
def SqT (K : PySem.W.Frag) (H : Hp) (a : Addr) (xs : List V) : Prop :=
  Rd H a (.tup xs) ∨
    ∃ (o : Obj) (its : Array Value) (n : Nat), K.lookup a = some o ∧ o.cls = .type "tuple" ∧ o.data = .seq its n ∧ its.size ≤ sizeLine ∧ Vals xs its.toList
def absV : Value → Option V
  | .none => some .non
  | .bool b => some (.bl b)
  | .int i _ => some (.int i)
  | .str x _ => some (.str x)
  | .bytes b _ => some (.byt b)
  | .float b _ => some (.flt b)
  | .ref a => some (.ref a)
  | .type n => some (.ty n)
  | _ => none
theorem RelV.abs {x : V} {u : Value} (r : RelV x u) : absV u = some x := by
  cases x with
  | non => cases r; rfl
  | bl _ => cases r; rfl
  | int _ => obtain ⟨t, rfl⟩ := r; rfl
  | str _ => obtain ⟨t, rfl⟩ := r; rfl
  | byt _ => obtain ⟨t, rfl⟩ := r; rfl
  | flt _ => obtain ⟨t, rfl⟩ := r; rfl
  | ref _ => cases r; rfl
  | ty _ => cases r; rfl
theorem RelV.inj {x y : V} {u : Value} (r : RelV x u) (q : RelV y u) : x = y := Option.some.inj (r.abs.symm.trans q.abs)
theorem Vals.inj : ∀ {xs ys : List V} {us : List Value}, Vals xs us → Vals ys us → xs = ys
  | _, _, _, .nil, .nil => rfl
  | _, _, _, .cons r t, .cons r' t' => by rw [r.inj r', Vals.inj t t']
section
variable {X : Cx} {pins : List (Addr × Obj)} {σ : St} {H : Hp} {s : Shared} {a : Addr} {xs ys : List V}
theorem SqL.of {K : PySem.W.Frag} (h : H a = some (.lst xs)) : SqL K H a xs := .inl (.inl h)
theorem SqT.of {K : PySem.W.Frag} (h : H a = some (.tup xs)) : SqT K H a xs := .inl (.inl h)
theorem Inv.list (I : Inv X pins σ H s) (h : SqL X.K H a xs) : ∃ its : List Value, Vals xs its ∧ PlainL s.heap a its.toArray ∧ xs.length ≤ sizeLine := by
  rcases h with h | ⟨o, its, n, hk, hc, hd, hs, hz, r⟩
  · obtain ⟨z, its, n, r, e⟩ := h.ok I.hok
    exact ⟨its, r, ⟨_, n, e, rfl, rfl, rfl⟩, z⟩
  · refine ⟨its.toList, r, ⟨o, n, I.kIn a o hk, hc, hd, by simpa using hs⟩, ?_⟩
    have e := r.length
    simp only [Array.length_toList] at e
    omega
theorem Inv.tuple (I : Inv X pins σ H s) (h : SqT X.K H a xs) : ∃ its : List Value, Vals xs its ∧ IsTup s.heap a its.toArray ∧ xs.length ≤ sizeLine := by
  rcases h with h | ⟨o, its, n, hk, hc, hs, hz, r⟩
  · obtain ⟨z, its, r, p⟩ := h.ok I.hok
    exact ⟨its, r, p, z⟩
  · refine ⟨its.toList, r, ⟨o, I.kIn a o hk, hc, n, by simpa using hs⟩, ?_⟩
    have e := r.length
    simp only [Array.length_toList] at e
    omega
theorem Inv.list_inj (I : Inv X pins σ H s) (h : SqL X.K H a xs) (h' : SqL X.K H a ys) : xs = ys := by
  obtain ⟨its, r, ⟨o, n, e, _, _, d⟩, _⟩ := I.list h
  obtain ⟨its', r', ⟨o', n', e', _, _, d'⟩, _⟩ := I.list h'
  rw [e] at e'; cases e'
  rw [d] at d'
  injection d' with d1 _
  have : its = its' := by simpa using congrArg Array.toList d1
  subst this
  exact r.inj r'
end
abbrev Cx.wish (X : Cx) (E : Value → Shared → Prop) : Cx := { X with xe := E }
/-- no exception leaves -/
abbrev Cx.nox (X : Cx) : Cx := X.wish fun _ _ => False
theorem Cx.Ok.wish {X : Cx} (ok : X.Ok) (E : Value → Shared → Prop) : (X.wish E).Ok :=
  ⟨ok.mod, ok.kind, ok.glob, ok.blt, ok.above, ok.inj, ok.has, ok.cab, ok.hd, ok.frames, ok.stk, ok.exf, ok.bs, ok.bsz, ok.noex, ok.exfs, ok.funs, ok.frf⟩
theorem Cx.Ok.unwish {X : Cx} {E : Value → Shared → Prop} (ok : (X.wish E).Ok) : X.Ok :=
  ⟨ok.mod, ok.kind, ok.glob, ok.blt, ok.above, ok.inj, ok.has, ok.cab, ok.hd, ok.frames, ok.stk, ok.exf, ok.bs, ok.bsz, ok.noex, ok.exfs, ok.funs, ok.frf⟩
section
variable {X : Cx} {pins : List (Addr × Obj)} {σ : St} {H : Hp} {s : Shared} {E : Value → Shared → Prop}
theorem Inv.wish (I : Inv X pins σ H s) (E : Value → Shared → Prop) : Inv (X.wish E) pins σ H s := ⟨I.ok.wish E, I.os, I.bare, I.base, I.loc, I.cell, I.free, I.freeC, I.pin, I.hok, I.len⟩
theorem Inv.unwish (I : Inv (X.wish E) pins σ H s) : Inv X pins σ H s := ⟨I.ok.unwish, I.os, I.bare, I.base, I.loc, I.cell, I.free, I.freeC, I.pin, I.hok, I.len⟩
theorem SP.unwish {D : Ends} {f : Flow} {s' : Shared} (h : SP (X.wish E) pins D f s') : SP X pins D f s' := by
  cases f with
  | next => obtain ⟨σ', H', I, q⟩ := h; exact ⟨σ', H', I.unwish, q⟩
  | brk => obtain ⟨σ', H', I, q⟩ := h; exact ⟨σ', H', I.unwish, q⟩
  | cont => obtain ⟨σ', H', I, q⟩ := h; exact ⟨σ', H', I.unwish, q⟩
  | ret u => obtain ⟨v, σ', H', I, r, q⟩ := h; exact ⟨v, σ', H', I.unwish, r, q⟩
theorem PE.nox {e : Expr} {t : TE} (h : PE X.nox e t) : PE X e t := fun pins s σ H Q I hw =>
  wpAny_mono (h pins s σ H Q (I.wish _) hw) (fun _ _ ⟨v, H', I', r, q⟩ => ⟨v, H', I'.unwish, r, q⟩) fun _ _ z => False.elim z
theorem PT.nox {e : Expr} {t : TT} (h : PT X.nox e t) : PT X e t := fun pins s σ H Q I hw =>
  wpAny_mono (h pins s σ H Q (I.wish _) hw) (fun _ _ ⟨H', I', q⟩ => ⟨H', I'.unwish, q⟩) fun _ _ z => False.elim z
theorem PSs.nox {st : List Stmt} {t : TS} (h : PSs X.nox st t) : PSs X st t := fun pins s σ H D I hw =>
  wpAny_mono (h pins s σ H D (I.wish _) hw) (fun _ _ q => q.unwish) fun _ _ z => False.elim z
end
section
variable {X : Cx} {st : Stmt} {rest : List Stmt} {t u : TS} {e : Expr} {te : TE} {pos : Pos}
def tNext : TS := fun D σ H => D.nx σ H
def tSeq (t u : TS) : TS := fun D σ H => t { D with nx := u D } σ H
theorem pss_nil : PSs X [] tNext := fun _ _ σ H _ I h => wpAny_execs_nil ⟨σ, H, I, h⟩
theorem pss_cons (h1 : PS X st t) (h2 : PSs X rest u) : PSs X (st :: rest) (tSeq t u) := by
  intro pins s σ H D I h
  refine wpAny_execs_cons (thn (h1 pins s σ H { D with nx := u D } I h) fun f s1 q => ?_)
  cases f with
  | next =>
    obtain ⟨σ', H', I', q⟩ := q
    exact h2 pins s1 σ' H' D I' q
  | ret v => exact q
  | brk => exact q
  | cont => exact q
theorem pss_one (h1 : PS X st t) : PSs X [st] t := by
  intro pins s σ H D I h
  refine wpAny_execs_cons (thn (h1 pins s σ H D I h) fun f s1 q => ?_)
  cases f with
  | next => exact wpAny_execs_nil q
  | ret v => exact q
  | brk => exact q
  | cont => exact q
def tBreak : TS := fun D σ H => D.bk σ H
def tCont : TS := fun D σ H => D.ct σ H
/-- in a def's body nothing is shown -/
theorem Inv.quiet {pins : List (Addr × Obj)} {σ : St} {H : Hp} {s : Shared} (I : Inv X pins σ H s) : interactive X.env = false := by simp [interactive, I.ok.kind]
/-- an expression whose value is dropped -/
def tDrop (te : TE) : TS := fun D σ H => te σ H fun _ H1 => D.nx σ H1
theorem ps_expr (he : PE X e te) (hs : swapsWith e none pos.line X.env = pure false := by rfl) : PS X (.Expr e pos) (tDrop te) := by
  intro pins s σ H D I h
  exact wpAny_Expr_any (thn (he pins s σ H _ I h) fun v s1 ⟨x, H1, I1, r1, q1⟩ => ⟨σ, H1, I1, q1⟩) I.quiet hs
def tRet (te : TE) : TS := fun D σ H => te σ H D.rt
theorem ps_ret (he : PE X e te) : PS X (.Return (some e) pos) (tRet te) := by
  intro pins s σ H D I h
  exact wpAny_Return_some (thn (he pins s σ H _ I h) fun v s1 ⟨x, H1, I1, r1, q1⟩ => ⟨x, σ, H1, I1, r1, q1⟩)
def tRetN : TS := fun D _ H => D.rt .non H
def tIfS (c : TT) (t u : TS) : TS := fun D σ H => c σ H fun b H1 => if b = true then t D σ H1 else u D σ H1
theorem ps_if {c : Expr} {a b : List Stmt} {tc : TT} (hc : PT X c tc) (ha : PSs X a t) (hb : PSs X b u) : PS X (.If c a b pos) (tIfS tc t u) := by
  intro pins s σ H D I h
  refine wpAny_If (thn (hc pins s σ H _ I h) fun d s1 ⟨H1, I1, q1⟩ => ?_)
  cases d with
  | true => exact ha pins s1 σ H1 D I1 q1
  | false => exact hb pins s1 σ H1 D I1 q1
/-- code that the proof never comes to -/
def tNever : TS := fun _ _ _ => False
end
abbrev TG := V → St → Hp → (St → Hp → Prop) → Prop
abbrev TGs := List V → St → Hp → (St → Hp → Prop) → Prop
def PG (X : Cx) (target : Expr) (t : TG) : Prop :=
  ∀ (pins : List (Addr × Obj)) (s : Shared) (σ : St) (H : Hp) (v : V) (u : Value) (Q : St → Hp → Prop), Inv X pins σ H s → RelV v u → t v σ H Q →
    wpAny (model X.prog X.w) X.A (assign target X.env u) (fun _ s' => ∃ σ' H', Inv X pins σ' H' s' ∧ Q σ' H') X.xe s
/-- several targets, one after another -/
def PGs (X : Cx) (ts : List Expr) (t : TGs) : Prop :=
  ∀ (pins : List (Addr × Obj)) (s : Shared) (σ : St) (H : Hp) (vs : List V) (us : List Value) (Q : St → Hp → Prop), Inv X pins σ H s → Vals vs us → t vs σ H Q →
    wpAny (model X.prog X.w) X.A (assignInOrder ((assignEach ts X.env).map (·.2)) us) (fun _ s' => ∃ σ' H', Inv X pins σ' H' s' ∧ Q σ' H') X.xe s
/-- o[i] = v, by values -/
abbrev TSet := V → V → V → Hp → (Hp → Prop) → Prop
def PSet (X : Cx) (t : TSet) : Prop :=
  ∀ (pins : List (Addr × Obj)) (s : Shared) (σ : St) (H : Hp) (o i v : V) (ov iv u : Value) (Q : Hp → Prop), Inv X pins σ H s → RelV o ov → RelV i iv → RelV v u → t o i v H Q →
    wpAny (model X.prog X.w) X.A (setItem ov iv u) (fun _ s' => ∃ H', Inv X pins σ H' s' ∧ Q H') X.xe s
/-- a op= b, by values -/
abbrev TIp := V → V → Hp → VK → Prop
def PIp (X : Cx) (op : Operator) (t : TIp) : Prop :=
  ∀ (pins : List (Addr × Obj)) (s : Shared) (σ : St) (H : Hp) (x y : V) (v u : Value) (Q : VK), Inv X pins σ H s → RelV x v → RelV y u → t x y H Q →
    wpAny (model X.prog X.w) X.A (inplaceOp op v u) (EP X pins σ Q) X.xe s
section
variable {X : Cx} {pos : Pos}
def gName (i : Nat) : TG := fun v σ H Q => Q (σ.set i (some v)) H
theorem pg_name {i : Nat} {x : Str} (hN : X.N.Nodup) (hi : X.N[i]? = some x) (hx : Loc X.env.scope x) (hf : X.fn x = true ∨ X.env.scope.names.lookup x = some .local := by first | exact .inl rfl | exact .inr rfl | assumption) : PG X (.Name x pos) (gName i) := by
  intro pins s σ H v u Q I r h
  exact wpAny_assign_Name (store_ok I hN hi hx r (fun s' I' => ⟨_, H, I', h⟩) hf)
def gNil : TGs := fun vs σ H Q => vs = [] ∧ Q σ H
def gCons (t : TG) (u : TGs) : TGs := fun vs σ H Q => ∃ v r, vs = v :: r ∧ t v σ H fun σ' H' => u r σ' H' Q
theorem pgs_nil : PGs X [] gNil := by
  intro pins s σ H vs us Q I r h
  obtain ⟨e, h⟩ := h
  subst e
  cases r
  exact assignInOrder_nil ⟨σ, H, I, h⟩
theorem pgs_cons {e : Expr} {es : List Expr} {t : TG} {u : TGs} (h1 : PG X e t) (h2 : PGs X es u)
    (hs : (assignEach (e :: es) X.env).map (·.2) = assign e X.env :: (assignEach es X.env).map (·.2) := by rfl) : PGs X (e :: es) (gCons t u) := by
  intro pins s σ H vs us Q I r h
  obtain ⟨v, vr, e1, h⟩ := h
  subst e1
  cases r with
  | cons r rr =>
    rw [hs]
    refine assignInOrder_cons (thn (h1 pins s σ H _ _ _ I r h) fun _ s1 ⟨σ1, H1, I1, q1⟩ => ?_)
    exact h2 pins s1 σ1 H1 _ _ Q I1 rr q1
/-- (a, b, ..) = a tuple of that length -/
def gTup (K : PySem.W.Frag) (n : Nat) (t : TGs) : TG := fun v σ H Q => ∃ a xs, v = .ref a ∧ SqT K H a xs ∧ xs.length = n ∧ t xs σ H Q
theorem pg_tup {es : List Expr} {k : Nat} {t : TGs} {n : Nat} (hc : X.calm = true) (h : PGs X es t)
    (hn : (assignEach es X.env).length = n := by rfl) (hst : (assignEach es X.env).findIdx? (·.1) = none := by rfl) : PG X (.Tuple es k pos) (gTup X.K n t) := by
  intro pins s σ H v u Q I r hw
  obtain ⟨a, xs, e1, hq, hl, hw⟩ := hw
  subst e1
  cases r
  obtain ⟨its, rv, ht, hz⟩ := I.tuple hq
  refine assign_Tuple_tuple (I.ok.hd hc) ht (by simp [hn, ← hl, rv.length]) hst fun h' hx => ?_
  have I1 : Inv X pins σ H { s with heap := h' } := I.kept (t' := s.toks) fun b o e => hx b o (Nat.ne_of_lt (Heap.lt_size e)) e
  exact h pins _ σ H xs _ Q I1 (by simpa using rv) hw
/-- o[i] = .. -/
def gSub (to ti : TE) (t : TSet) : TG := fun v σ H Q => to σ H fun o H1 => ti σ H1 fun i H2 => t o i v H2 fun H3 => Q σ H3
/-- target = value -/
def tAsg (te : TE) (g : TG) : TS := fun D σ H => te σ H fun x H1 => g x σ H1 D.nx
/-- name = value -/
theorem ps_set {i : Nat} {x : Str} {e : Expr} {te : TE} {pos' : Pos} (hN : X.N.Nodup) (hi : X.N[i]? = some x) (hx : Loc X.env.scope x) (he : PE X e te) (hs : swapsWith e (some (.Name x pos')) pos.line X.env = pure false := by rfl) (hf : X.fn x = true ∨ X.env.scope.names.lookup x = some .local := by first | exact .inl rfl | exact .inr rfl | assumption) :
    PS X (.Assign [.Name x pos'] e pos) (tAsg te (gName i)) := by
  intro pins s σ H D I h
  refine wpAny_Assign_Name (thn (he pins s σ H _ I h) fun v s1 ⟨y, H1, I1, r1, q1⟩ => ?_) hs
  exact store_ok I1 hN hi hx r1 (fun s2 I2 => ⟨_, H1, I2, q1⟩) hf
/-- a, b = x, y with plain local names: stored from the right; the pair itself is not tracked (the opening rows as in PyProof/Rows/TupAssign.lean:23) -/
def tPar (i j : Nat) (ta : TA) : TS := fun D σ H => ta σ H fun vs H1 => ∃ v w, vs = [v, w] ∧ D.nx ((σ.set i (some v)).set j (some w)) H1
/-- name op= e -/
def tAug (i : Nat) (te : TE) (ti : TIp) : TS := fun D σ H => ∃ x, σ[i]? = some (some x) ∧ te σ H fun y H1 => ti x y H1 fun z H2 => D.nx (σ.set i (some z)) H2
/-- o[i] op= e -/
def tAugS (to ti te : TE) (tget : V → V → Hp → VK → Prop) (tip : TIp) (tset : TSet) : TS := fun D σ H => to σ H fun o H1 => ti σ H1 fun i H2 => tget o i H2 fun x H3 => te σ H3 fun y H4 => tip x y H4 fun z H5 => tset o i z H5 fun H6 => D.nx σ H6
/-- o[i], by values -/
def PGet (X : Cx) (t : V → V → Hp → VK → Prop) : Prop :=
  ∀ (pins : List (Addr × Obj)) (s : Shared) (σ : St) (H : Hp) (o i : V) (ov iv : Value) (Q : VK), Inv X pins σ H s → RelV o ov → RelV i iv → t o i H Q →
    wpAny (model X.prog X.w) X.A (getItem ov iv) (EP X pins σ Q) X.xe s
/-- ints -/
def ipI (f : Int → Int → Int) : TIp := fun x y H Q => ∃ i j, x = .int i ∧ y = .int j ∧ Q (.int (f i j)) H
end
section
variable {X : Cx} {pos : Pos}
/-- the invariant W with its measure -/
def tWhile (c : TT) (tb : TS) : TS := fun D σ H => ∃ W : Nat → St → Hp → Prop, (∃ m, W m σ H) ∧ ∀ m σ H, W m σ H →
  c σ H fun b H1 => if b = true then ∃ N : St → Hp → Prop, (∀ σ' H', N σ' H' → ∃ m', m' < m ∧ W m' σ' H') ∧ tb { D with nx := N, ct := N, bk := D.nx } σ H1 else D.nx σ H1
theorem ps_while {c : Expr} {body : List Stmt} {tc : TT} {tb : TS} (hp : PassesOwn (model X.prog X.w) X.A X.env X.xe) (hc : PT X c tc) (hb : PSs X body tb) : PS X (.While c body [] pos) (tWhile tc tb) := by
  intro pins s σ H D I h
  obtain ⟨W, ⟨m0, w0⟩, turn⟩ := h
  refine wpAny_While (codeAny_whileLoop (fun n s' => ∃ σ' H', Inv X pins σ' H' s' ∧ W n σ' H') ?_ m0 ⟨σ, H, I, w0⟩)
  rintro n s1 ⟨σ1, H1, I1, w1⟩
  refine wpAny_passesOwn hp (thn (hc pins s1 σ1 H1 _ I1 (turn n σ1 H1 w1)) fun b s2 ⟨H2, I2, q2⟩ => ?_)
  cases b with
  | true =>
    obtain ⟨N, hN, q2⟩ := q2
    rw [if_pos rfl]
    refine wpAny_passesOwn hp (thn (hb pins s2 σ1 H2 _ I2 q2) fun f s3 q3 => ?_)
    cases f with
    | next =>
      obtain ⟨σ3, H3, I3, n3⟩ := q3
      obtain ⟨m', hm, w3⟩ := hN σ3 H3 n3
      exact ⟨m', hm, σ3, H3, I3, w3⟩
    | cont =>
      obtain ⟨σ3, H3, I3, n3⟩ := q3
      obtain ⟨m', hm, w3⟩ := hN σ3 H3 n3
      exact ⟨m', hm, σ3, H3, I3, w3⟩
    | brk => exact q3
    | ret v => exact q3
  | false =>
    rw [if_neg Bool.false_ne_true]
    exact wpAny_execs_nil ⟨σ1, H2, I2, q2⟩
end
/-- at turn i: it yields x (the heap may grow), or it stops -/
structure It where
  go : Nat → Hp → Prop
  yld : Nat → Hp → V → Hp → Prop
  stop : Nat → Hp → Prop
/-- the iterator's own objects may turn: they are not the frame's, not pinned, younger than the entry (or a comprehension's own) -/
def FpOk (X : Cx) (pins : List (Addr × Obj)) (H : Hp) (b : Addr) : Prop :=
  H b = none ∧ b ≠ X.env.locals ∧ b ∉ X.fs ∧ (b ∈ X.ex ∨ X.s_0.heap.objs.size ≤ b) ∧ (∀ x c, X.env.cells.lookup x = some c → c ≠ b) ∧ ∀ p ∈ X.pn ++ pins, p.1 ≠ b
theorem Inv.fpOk {X : Cx} {pins : List (Addr × Obj)} {σ : St} {H H' : Hp} {s : Shared} {b : Addr} (I : Inv X pins σ H s) (hb : s.heap.objs.size ≤ b) (hn : H' b = none) : FpOk X pins H' b := by
  refine ⟨hn, Nat.ne_of_gt (Nat.lt_of_lt_of_le I.lt hb), I.nofs hb, .inr (Nat.le_trans I.sz hb), fun x c e z => ?_, fun p hp z => ?_⟩
  · obtain ⟨v, q⟩ := I.cell x c e
    exact absurd (Nat.lt_of_lt_of_le q.lt (by rw [z]; exact hb)) (Nat.lt_irrefl _)
  · exact absurd (Nat.lt_of_lt_of_le (Heap.lt_size (I.pin p hp).1) (by rw [z]; exact hb)) (Nat.lt_irrefl _)
structure Turn (P : Program) (w : World) (K : PySem.W.Frag) (tg : Expr) (J : It) (fp : List Addr) (it : Addr) (tn : Nat → Heap → Prop) : Prop where
  mem : it ∈ fp
  obj : ∀ i h, tn i h → ∀ b ∈ fp, ∃ o, h.get? b = some o ∧ ∀ v, o.data ≠ .cell v
  keep : ∀ i h h', tn i h → (∀ b ∈ fp, ∀ o, h.get? b = some o → h'.get? b = some o) → tn i h'
  item : ∀ (X : Cx), X.prog = P → X.w = w → X.K = K → X.calm = true → ∀ (i : Nat) (pins : List (Addr × Obj)) (s : Shared) (σ : St) (H : Hp) (E : Value → Shared → Prop), Inv X pins σ H s → (∀ b ∈ fp, FpOk X pins H b) → tn i s.heap → J.go i H →
    wpAny (model P w) X.A (pyNext (.ref it)) (fun r s1 => ∃ u, r = some u ∧
      wpAny (model P w) X.A (letOwnedTupleGo tg (.ref it) u) (fun _ s2 => ∃ x H', Inv X pins σ H' s2 ∧ RelV x u ∧ J.yld i H x H' ∧ tn (i + 1) s2.heap ∧ ∀ b ∈ fp, H' b = none) E s1) E s
  done : ∀ (X : Cx), X.prog = P → X.w = w → X.K = K → X.calm = true → ∀ (i : Nat) (pins : List (Addr × Obj)) (s : Shared) (σ : St) (H : Hp) (E : Value → Shared → Prop), Inv X pins σ H s → (∀ b ∈ fp, FpOk X pins H b) → tn i s.heap → J.stop i H →
    wpAny (model P w) X.A (pyNext (.ref it)) (fun r s1 => r = none ∧ Inv X pins σ H s1) E s
  self : ∀ (A : Around) (i : Nat) (s : Shared) (Q : Value → Shared → Prop) (E : Value → Shared → Prop), tn i s.heap → Q (.ref it) s → wpAny (model P w) A (pyIter (.ref it)) Q E s
abbrev TI := St → Hp → (It → Hp → Prop) → Prop
/-- an iterator has come -/
def PIE (X : Cx) (pins : List (Addr × Obj)) (σ : St) (tg : Expr) (R : It → Hp → Prop) (itv : Value) (s2 : Shared) : Prop :=
  ∃ (it : Addr) (fp : List Addr) (tn : Nat → Heap → Prop) (J : It) (H' : Hp), itv = .ref it ∧ Inv X pins σ H' s2 ∧ Turn X.prog X.w X.K tg J fp it tn ∧ tn 0 s2.heap ∧ (∀ b ∈ fp, FpOk X pins H' b) ∧ R J H'
def PI (X : Cx) (tg iter : Expr) (wi : TI) : Prop :=
  ∀ (pins : List (Addr × Obj)) (s : Shared) (σ : St) (H : Hp) (R : It → Hp → Prop), Inv X pins σ H s → wi σ H R →
    wpAny (model X.prog X.w) X.A (eval iter X.env) (fun v s1 => wpAny (model X.prog X.w) X.A (pyIter v) (PIE X pins σ tg R) X.xe s1) X.xe s
/-- the step ahead of the store is nothing for an iterator that keeps no tuple -/
theorem go_of {M : Model} {A : Around} {E : Value → Shared → Prop} {s : Shared} {tg : Expr} {it : Addr} {u : Value} {o : Obj} {n : String} {vs : Array Value} {Q : Unit → Shared → Prop} (ho : s.heap.get? it = some o) (hc : o.cls = .type n) (hd : o.data = .fields vs)
    (hn : ["enumerate", "zip", "dict_itemiterator", "dict_reverseitemiterator", "odict_iterator", "itertools.zip_longest", "itertools.pairwise"].contains n = false) (hQ : Q () s) : wpAny M A (letOwnedTupleGo tg (.ref it) u) Q E s := by
  unfold letOwnedTupleGo
  cases tg <;> first
    | exact wpAny_pure hQ
    | (cases u <;> first
        | exact wpAny_pure hQ
        | (refine wpAny_bind (wpAny_load ho ?_)
           rw [hc, hd]
           show wpAny M A (if (["enumerate", "zip", "dict_itemiterator", "dict_reverseitemiterator", "odict_iterator", "itertools.zip_longest", "itertools.pairwise"].contains n && vs[0]? == some (rawInt _)) = true then _ else _) Q E s
           rw [if_neg (by intro h; rw [hn, Bool.false_and] at h; cases h)]
           exact wpAny_pure hQ))
/-- the list at a, as it stands at each turn (a loop may append to it) -/
def Itl (K : PySem.W.Frag) (a : Addr) : It :=
  ⟨fun i H => ∃ xs x, SqL K H a xs ∧ xs[i]? = some x, fun i H x H' => H' = H ∧ ∀ xs, SqL K H a xs → xs[i]? = some x, fun i H => ∃ xs, SqL K H a xs ∧ xs.length ≤ i⟩
def Itt (K : PySem.W.Frag) (a : Addr) : It :=
  ⟨fun i H => ∃ xs x, SqT K H a xs ∧ xs[i]? = some x, fun i H x H' => H' = H ∧ ∀ xs, SqT K H a xs → xs[i]? = some x, fun i H => ∃ xs, SqT K H a xs ∧ xs.length ≤ i⟩
/-- lo, lo + 1, .. (n of them) -/
def Itr (lo : Int) (n : Nat) : It := ⟨fun i _ => i < n, fun i H x H' => H' = H ∧ x = .int (lo + i), fun i _ => n ≤ i⟩
theorem turn_list {P : Program} {w : World} {K : PySem.W.Frag} {tg : Expr} (a it : Addr) : Turn P w K tg (Itl K a) [it] it (fun i h => h.IsListIter it a i) where
  mem := by simp
  obj := fun i h st b hb => by
    have e : b = it := by simpa using hb
    subst e
    obtain ⟨o, e, c, d⟩ := st
    exact ⟨o, e, fun v z => by rw [d] at z; cases z⟩
  keep := fun i h h' st k => st.at fun o e => k it (by simp) o e
  item := by
    intro X hP hw hK hc i pins s σ H E I hf st hg
    subst hP hw hK
    obtain ⟨xs, x, hq, hx⟩ := hg
    obtain ⟨its, rv, p, hz⟩ := I.list hq
    obtain ⟨u, hu, ru⟩ := rv.get hx
    obtain ⟨f0, f1, f2, f3, f4, f5⟩ := hf it (by simp)
    refine wpAny_pyNext_list_item st p.isList (x := u) (by simpa using hu) fun h' st' sb => ?_
    have I1 : Inv X pins σ H { s with heap := h' } := I.turned (t' := s.toks) (fun b o hb e => (sb.2 b hb).trans e) f0 f1 f3 f4 f5
    obtain ⟨o, e, c, d⟩ := id st'
    exact ⟨u, rfl, go_of (s := { s with heap := h' }) e c d (by decide) ⟨x, H, I1, ru, ⟨rfl, fun ys hy => by rw [I.list_inj hy hq]; exact hx⟩, st', fun b hb => (hf b hb).1⟩⟩
  done := by
    intro X hP hw hK hc i pins s σ H E I hf st hg
    subst hP hw hK
    obtain ⟨xs, hq, hx⟩ := hg
    obtain ⟨its, rv, p, hz⟩ := I.list hq
    obtain ⟨f0, f1, f2, f3, f4, f5⟩ := hf it (by simp)
    have hl := rv.length
    exact wpAny_pyNext_list_end (I.ok.hd hc) st p.isList (by simp; omega) fun h' eb => ⟨rfl, I.turned (t' := s.toks) (fun b o hb e => eb b o hb e) f0 f1 f3 f4 f5⟩
  self := fun _ _ _ _ _ st h => wpAny_pyIter_listiter st h
theorem turn_range {P : Program} {w : World} {K : PySem.W.Frag} {tg : Expr} (it : Addr) (lo : Int) (n : Nat) : Turn P w K tg (Itr lo n) [it] it (fun i h => IsRangeIter h it (lo + (i : Nat) * 1) ((n : Int) - (i : Nat)) 1) where
  mem := by simp
  obj := fun i h st b hb => by
    have e : b = it := by simpa using hb
    subst e
    exact ⟨_, st, fun v z => by
      have z' : Data.fields _ = Data.cell v := z
      cases z'⟩
  keep := fun i h h' st k => k it (by simp) _ st
  item := by
    intro X hP hw hK hc i pins s σ H E I hf st hg
    subst hP hw hK
    obtain ⟨f0, f1, f2, f3, f4, f5⟩ := hf it (by simp)
    have W := Walks.range (prog := X.prog) (w := X.w) (I.ok.hd hc) it lo 1 n
    refine W.item i s _ _ hg st fun v h' tk hv st' kk => ?_
    obtain ⟨t, rfl⟩ := hv
    have I1 : Inv X pins σ H { s with heap := h', toks := tk } := I.turned (fun b o hb e => kk b o (by simpa using hb) e) f0 f1 f3 f4 f5
    refine ⟨_, rfl, go_of (s := { s with heap := h', toks := tk }) (n := "range_iterator") st' rfl rfl (by decide) ⟨.int (lo + i), H, I1, ⟨t, ?_⟩, ⟨rfl, rfl⟩, st', fun b hb => (hf b hb).1⟩⟩
    rw [Int.mul_one]
  done := by
    intro X hP hw hK hc i pins s σ H E I hf st hg
    subst hP hw hK
    obtain ⟨f0, f1, f2, f3, f4, f5⟩ := hf it (by simp)
    exact wpAny_pyNext_range_end (I.ok.hd hc) st (by have : n ≤ i := hg; omega) fun h' eb => ⟨rfl, I.turned (t' := s.toks) (fun b o hb e => eb b o hb e) f0 f1 f3 f4 f5⟩
  self := fun _ _ _ _ _ st h => wpAny_pyIter_rangeiter st h
end L2
namespace L2
open PySem PySem.Spec PyProof.Rows
section
variable {X : Cx} {tg : Expr}
def iList (K : PySem.W.Frag) (tl : TE) : TI := fun σ H R => tl σ H fun x H1 => ∃ a, x = .ref a ∧ (∃ xs, SqL K H1 a xs) ∧ R (Itl K a) H1
def iTup (K : PySem.W.Frag) (tl : TE) : TI := fun σ H R => tl σ H fun x H1 => ∃ a, x = .ref a ∧ (∃ xs, SqT K H1 a xs) ∧ R (Itt K a) H1
theorem pi_list {l : Expr} {tl : TE} (hl : PE X l tl) : PI X tg l (iList X.K tl) := by
  intro pins s σ H R I h
  refine thn (hl pins s σ H _ I h) fun v s1 ⟨x, H1, I1, r1, q1⟩ => ?_
  obtain ⟨a, e, ⟨xs, hq⟩, q⟩ := q1
  subst e
  cases r1
  obtain ⟨its, rv, p, hz⟩ := I1.list hq
  refine wpAny_pyIter_list p.isList ?_
  refine ⟨s1.heap.objs.size, [s1.heap.objs.size], _, _, H1, rfl, I1.kept (t' := s1.toks) fun b o e => Heap.get?_push_of_some _ e, turn_list a _, ⟨_, Heap.get?_push_size _ rfl, rfl, rfl⟩, fun b hb => ?_, q⟩
  have e : b = s1.heap.objs.size := by simpa using hb
  subst e
  exact I1.fpOk (Nat.le_refl _) (I1.hok.fresh (Nat.le_refl _))
/-- a range object just made, walked -/
theorem range_it {pins : List (Addr × Obj)} {σ : St} {H : Hp} {s : Shared} {R : It → Hp → Prop} {E : Value → Shared → Prop} {lo hi : Int} {t u v : Tok} {tk : Nat} (I : Inv X pins σ H s) (h1 : -(2 ^ 62) ≤ lo) (h2 : lo < 2 ^ 62) (h3 : -(2 ^ 62) ≤ hi) (h4 : hi < 2 ^ 62)
    (q : R (Itr lo (hi - lo).toNat) H) : wpAny (model X.prog X.w) X.A (pyIter (.ref s.heap.objs.size)) (PIE X pins σ tg R) E { s with heap := s.heap.push { cls := .type "range", data := .fields #[.int lo t, .int hi u, .int 1 v] }, toks := tk } := by
  refine wpAny_pyIter_range (IsRange.new ..) (small_one h1 h2 h3 h4) ?_
  have I1 : Inv X pins σ H { s with heap := s.heap.push { cls := .type "range", data := .fields #[.int lo t, .int hi u, .int 1 v] }, toks := tk } := I.kept fun b o e => Heap.get?_push_of_some _ e
  refine ⟨(s.heap.push { cls := .type "range", data := .fields #[.int lo t, .int hi u, .int 1 v] }).objs.size, [(s.heap.push { cls := .type "range", data := .fields #[.int lo t, .int hi u, .int 1 v] }).objs.size], _, _, H, rfl,
    I1.kept (t' := tk) fun b o e => Heap.get?_push_of_some _ e, turn_range _ lo (hi - lo).toNat, ?_, fun b hb => ?_, q⟩
  · have e1 : lo + ((0 : Nat) : Int) * 1 = lo := by simp
    have e2 : (((hi - lo).toNat : Nat) : Int) - ((0 : Nat) : Int) = Builtin.Range.rangeSize lo hi 1 := by rw [rangeSize_one]; split <;> omega
    show IsRangeIter _ _ (lo + ((0 : Nat) : Int) * 1) ((((hi - lo).toNat : Nat) : Int) - ((0 : Nat) : Int)) 1
    rw [e1, e2]
    exact Heap.get?_push_size _ rfl
  · have e : b = (s.heap.push { cls := .type "range", data := .fields #[.int lo t, .int hi u, .int 1 v] }).objs.size := by simpa using hb
    subst e
    exact I1.fpOk (Nat.le_refl _) (I1.hok.fresh (Nat.le_refl _))
def iRng1 (ta : TA) : TI := fun σ H R => ta σ H fun vs H1 => ∃ j : Int, vs = [.int j] ∧ -(2 ^ 62) ≤ j ∧ j < 2 ^ 62 ∧ R (Itr 0 j.toNat) H1
def iRng2 (ta : TA) : TI := fun σ H R => ta σ H fun vs H1 => ∃ i j : Int, vs = [.int i, .int j] ∧ (-(2 ^ 62) ≤ i ∧ i < 2 ^ 62 ∧ -(2 ^ 62) ≤ j ∧ j < 2 ^ 62) ∧ R (Itr i (j - i).toNat) H1
theorem pi_range1 {a : Expr} {ta : TA} {p pos : Pos} (hg : Gl X "range") (hm : X.mg "range" = none) (ha : PA X [a] ta) (hs : starEach [a] X.env = [(false, eval a X.env)] := by rfl) : PI X tg (.Call (.Name "range" p) [a] [] pos) (iRng1 ta) := by
  intro pins s σ H R I h
  refine Call_ (ld_blt I hg hm boot_range (PyProof.Rows.callWith_type1 (thn (ha pos pins s σ H _ I h) fun us s1 ⟨vs, H1, I1, r1, q1⟩ => ?_) hs rfl))
  obtain ⟨j, e, q1, q2, q⟩ := q1
  subst e
  cases r1 with
  | cons r rr =>
    cases rr
    obtain ⟨t, rfl⟩ := r
    exact call_range_1 (range_it I1 (by omega) (by omega) q1 q2 (by simpa using q))
/-- W: the invariant by the turn and a measure; N: what the body is to reach -/
def tFor (wi : TI) (g : TG) (tb : TS) : TS := fun D σ H => wi σ H fun J H1 => ∃ W : Nat → Nat → St → Hp → Prop, (∃ m, W 0 m σ H1) ∧ ∀ i m σ H, W i m σ H →
  (J.stop i H ∧ D.nx σ H) ∨ (J.go i H ∧ ∃ N : St → Hp → Prop, (∀ σ' H', N σ' H' → ∃ m', m' < m ∧ W (i + 1) m' σ' H') ∧ ∀ x H', J.yld i H x H' → g x σ H' fun σ2 H2 => tb { D with nx := N, ct := N, bk := D.nx } σ2 H2)
/-- the records at fp as they stand -/
def pinsAt (fp : List Addr) (h : Heap) : List (Addr × Obj) := fp.filterMap fun b => (h.get? b).map fun o => (b, o)
theorem mem_pinsAt {fp : List Addr} {h : Heap} {b : Addr} {o : Obj} (hb : b ∈ fp) (e : h.get? b = some o) : (b, o) ∈ pinsAt fp h := List.mem_filterMap.mpr ⟨b, hb, by rw [e]; rfl⟩
theorem of_pinsAt {fp : List Addr} {h : Heap} {p : Addr × Obj} (hp : p ∈ pinsAt fp h) : p.1 ∈ fp ∧ h.get? p.1 = some p.2 := by
  obtain ⟨b, hb, e⟩ := List.mem_filterMap.mp hp
  cases q : h.get? b with
  | none => rw [q] at e; cases e
  | some o =>
    rw [q] at e
    have e' : (b, o) = p := Option.some.inj e
    subst e'
    exact ⟨hb, q⟩
theorem Inv.pinned {pins : List (Addr × Obj)} {σ : St} {H : Hp} {s : Shared} {fp : List Addr} (I : Inv X pins σ H s) (hf : ∀ b ∈ fp, FpOk X pins H b) (ho : ∀ b ∈ fp, ∃ o, s.heap.get? b = some o ∧ ∀ v, o.data ≠ .cell v) : Inv X (pins ++ pinsAt fp s.heap) σ H s :=
  I.pins_of fun p hp => (List.mem_append.mp hp).elim (fun z => I.pin p (List.mem_append_right _ z)) fun z => by
    obtain ⟨hb, e⟩ := of_pinsAt z
    obtain ⟨f0, f1, f2, _⟩ := hf p.1 hb
    obtain ⟨o, e', d⟩ := ho p.1 hb
    rw [e] at e'; cases e'
    exact ⟨e, f0, f1, f2, d⟩
theorem Inv.unpinned {pins pl : List (Addr × Obj)} {σ : St} {H : Hp} {s : Shared} (I : Inv X (pins ++ pl) σ H s) : Inv X pins σ H s := I.pins_of fun p hp => I.pin p (List.mem_append_right _ (List.mem_append_left _ hp))
theorem ps_for {iter : Expr} {body : List Stmt} {wi : TI} {g : TG} {tb : TS} {pos : Pos} (hp : PassesOwn (model X.prog X.w) X.A X.env X.xe) (hc : X.calm = true) (hi : PI X tg iter wi) (hg : PG X tg g) (hb : PSs X body tb)
    (hs : ∀ x, foldedSetIterable iter X.env x = pure x := by intro _; rfl) : PS X (.For tg iter body [] pos) (tFor wi g tb) := by
  intro pins s σ H D I h
  refine wpAny_For (thn (hi pins s σ H _ I h) fun v s1 h1 => thn h1 fun itv s2 h2 => ?_) hs
  obtain ⟨it, fp, tn, J, H2, e, I2, T, st2, f2, W, ⟨m0, w0⟩, turn⟩ := h2
  subst e
  -- what stays true of the iterator's objects through the loop
  have stat : ∀ {H' : Hp}, (∀ b ∈ fp, H' b = none) → ∀ b ∈ fp, FpOk X pins H' b := fun hn b hb => ⟨hn b hb, (f2 b hb).2⟩
  refine codeAny_forLoop_any (fun n s' => ∃ i σ' H', Inv X pins σ' H' s' ∧ tn i s'.heap ∧ (∀ b ∈ fp, H' b = none) ∧ W i n σ' H') ?_ m0 ⟨0, σ, H2, I2, st2, fun b hb => (f2 b hb).1, w0⟩
  rintro n s3 ⟨i, σ3, H3, I3, st3, fr3, w3⟩
  rcases turn i n σ3 H3 w3 with ⟨stop, qn⟩ | ⟨go, N, hN, step⟩
  · refine wpAny_passesOwn hp (thn (T.done X rfl rfl rfl hc i pins s3 σ3 H3 X.xe I3 (stat fr3) st3 stop) fun r s4 ⟨hr, I4⟩ => ?_)
    subst hr
    exact wpAny_execs_nil ⟨σ3, H3, I4, qn⟩
  · refine wpAny_passesOwn hp (thn (T.item X rfl rfl rfl hc i pins s3 σ3 H3 X.xe I3 (stat fr3) st3 go) fun r s4 ⟨u, hr, h4⟩ => ?_)
    subst hr
    refine wpAny_passesOwn hp (thn h4 fun _ s5 ⟨x, H5, I5, r5, y5, st5, fr5⟩ => ?_)
    have I5' := I5.pinned (stat fr5) (T.obj _ _ st5)
    refine wpAny_passesOwn hp (thn (hg _ s5 σ3 H5 x u _ I5' r5 (step x H5 y5)) fun _ s6 ⟨σ6, H6, I6, q6⟩ => ?_)
    refine wpAny_passesOwn hp (thn (hb _ s6 σ6 H6 _ I6 q6) fun f s7 q7 => ?_)
    have again : ∀ {σ7 : St} {H7 : Hp}, Inv X (pins ++ pinsAt fp s5.heap) σ7 H7 s7 → N σ7 H7 → ∃ m, m < n ∧ ∃ i σ' H', Inv X pins σ' H' s7 ∧ tn i s7.heap ∧ (∀ b ∈ fp, H' b = none) ∧ W i m σ' H' := fun {σ7 H7} I7 n7 => by
      obtain ⟨m', hm, w7⟩ := hN σ7 H7 n7
      refine ⟨m', hm, i + 1, σ7, H7, I7.unpinned, T.keep _ _ _ st5 fun b hb o e => (I7.pin (b, o) (List.mem_append_right _ (List.mem_append_right _ (mem_pinsAt hb e)))).1, fun b hb => ?_, w7⟩
      obtain ⟨o, e, d⟩ := T.obj _ _ st5 b hb
      exact (I7.pin (b, o) (List.mem_append_right _ (List.mem_append_right _ (mem_pinsAt hb e)))).2.1
    cases f with
    | next => obtain ⟨σ7, H7, I7, n7⟩ := q7; exact again I7 n7
    | cont => obtain ⟨σ7, H7, I7, n7⟩ := q7; exact again I7 n7
    | brk => obtain ⟨σ7, H7, I7, q7⟩ := q7; exact ⟨σ7, H7, I7.unpinned, q7⟩
    | ret v => obtain ⟨x7, σ7, H7, I7, r7, q7⟩ := q7; exact ⟨x7, σ7, H7, I7.unpinned, r7, q7⟩
end
/-- over a list that the body leaves as it is -/
theorem for_list {K : PySem.W.Frag} {a : Addr} {xs : List V} {g : TG} {tb : TS} {D : Ends} {σ : St} {H : Hp} (Pv : Nat → St → Hp → Prop) (h0 : Pv 0 σ H) (hl : ∀ i σ H, i ≤ xs.length → Pv i σ H → SqL K H a xs)
    (hs : ∀ i x σ H, xs[i]? = some x → Pv i σ H → g x σ H fun σ2 H2 => tb { D with nx := Pv (i + 1), ct := Pv (i + 1), bk := D.nx } σ2 H2) (hd : ∀ σ H, Pv xs.length σ H → D.nx σ H) :
    ∃ W : Nat → Nat → St → Hp → Prop, (∃ m, W 0 m σ H) ∧ ∀ i m σ H, W i m σ H →
      ((Itl K a).stop i H ∧ D.nx σ H) ∨ ((Itl K a).go i H ∧ ∃ N : St → Hp → Prop, (∀ σ' H', N σ' H' → ∃ m', m' < m ∧ W (i + 1) m' σ' H') ∧ ∀ x H', (Itl K a).yld i H x H' → g x σ H' fun σ2 H2 => tb { D with nx := N, ct := N, bk := D.nx } σ2 H2) := by
  refine ⟨fun i m σ H => m = xs.length - i ∧ i ≤ xs.length ∧ Pv i σ H, ⟨xs.length, by simp, Nat.zero_le _, h0⟩, ?_⟩
  rintro i m σ H ⟨rfl, hi, p⟩
  have q := hl i σ H hi p
  by_cases hlt : i < xs.length
  · refine .inr ⟨⟨xs, xs[i], q, by simp [hlt]⟩, Pv (i + 1), fun σ' H' p' => ⟨xs.length - (i + 1), by omega, rfl, hlt, p'⟩, fun x H' y => ?_⟩
    obtain ⟨e, y⟩ := y
    subst e
    exact hs i x σ _ (y xs q) p
  · have e : i = xs.length := by omega
    subst e
    exact .inl ⟨⟨xs, q, Nat.le_refl _⟩, hd σ H p⟩
theorem for_range {lo : Int} {n : Nat} {g : TG} {tb : TS} {D : Ends} {σ : St} {H : Hp} (Pv : Nat → St → Hp → Prop) (h0 : Pv 0 σ H)
    (hs : ∀ i σ H, i < n → Pv i σ H → g (.int (lo + i)) σ H fun σ2 H2 => tb { D with nx := Pv (i + 1), ct := Pv (i + 1), bk := D.nx } σ2 H2) (hd : ∀ σ H, Pv n σ H → D.nx σ H) :
    ∃ W : Nat → Nat → St → Hp → Prop, (∃ m, W 0 m σ H) ∧ ∀ i m σ H, W i m σ H →
      ((Itr lo n).stop i H ∧ D.nx σ H) ∨ ((Itr lo n).go i H ∧ ∃ N : St → Hp → Prop, (∀ σ' H', N σ' H' → ∃ m', m' < m ∧ W (i + 1) m' σ' H') ∧ ∀ x H', (Itr lo n).yld i H x H' → g x σ H' fun σ2 H2 => tb { D with nx := N, ct := N, bk := D.nx } σ2 H2) := by
  refine ⟨fun i m σ H => m = n - i ∧ i ≤ n ∧ Pv i σ H, ⟨n, by simp, Nat.zero_le _, h0⟩, ?_⟩
  rintro i m σ H ⟨rfl, hi, p⟩
  by_cases hlt : i < n
  · refine .inr ⟨hlt, Pv (i + 1), fun σ' H' p' => ⟨n - (i + 1), by omega, rfl, hlt, p'⟩, fun x H' y => ?_⟩
    obtain ⟨e, y⟩ := y
    subst e y
    exact hs i σ _ hlt p
  · have e : i = n := by omega
    subst e
    exact .inl ⟨Nat.le_refl _, hd σ H p⟩
end L2
namespace L2
open PySem PySem.Spec PyProof.Rows
abbrev R2 := V → V → Hp → VK → Prop
/-- a two-place operation on values: f is binaryOp op, inplaceOp op or compareOp op -/
def OpR (X : Cx) (f : Value → Value → Sem Value) (r : R2) : Prop :=
  ∀ (pins : List (Addr × Obj)) (s : Shared) (σ : St) (H : Hp) (x y : V) (v u : Value) (Q : VK), Inv X pins σ H s → RelV x v → RelV y u → r x y H Q →
    wpAny (model X.prog X.w) X.A (f v u) (EP X pins σ Q) X.xe s
/-- a one-place operation -/
def UnR (X : Cx) (f : Value → Sem Value) (r : V → Hp → VK → Prop) : Prop :=
  ∀ (pins : List (Addr × Obj)) (s : Shared) (σ : St) (H : Hp) (x : V) (v : Value) (Q : VK), Inv X pins σ H s → RelV x v → r x H Q →
    wpAny (model X.prog X.w) X.A (f v) (EP X pins σ Q) X.xe s
/-- a call of a value that is known (a builtin, a type) with values -/
def CallR (X : Cx) (f : Value) (r : List V → Hp → VK → Prop) : Prop :=
  ∀ (pins : List (Addr × Obj)) (s : Shared) (σ : St) (H : Hp) (xs : List V) (us : List Value) (Q : VK), Inv X pins σ H s → Vals xs us → r xs H Q →
    wpAny (model X.prog X.w) X.A (call f us) (EP X pins σ Q) X.xe s
/-- a value's truth -/
def TruR (X : Cx) (r : V → Hp → (Bool → Hp → Prop) → Prop) : Prop :=
  ∀ (pins : List (Addr × Obj)) (s : Shared) (σ : St) (H : Hp) (x : V) (v : Value) (Q : Bool → Hp → Prop), Inv X pins σ H s → RelV x v → r x H Q →
    wpAny (model X.prog X.w) X.A (truthy v) (TP X pins σ Q) X.xe s
def tOp (r : R2) (ta tb : TE) : TE := fun σ H Q => ta σ H fun x H1 => tb σ H1 fun y H2 => r x y H2 Q
def tUn (r : V → Hp → VK → Prop) (ta : TE) : TE := fun σ H Q => ta σ H fun x H1 => r x H1 Q
/-- ints in, under C, and a value out -/
def rI (C : Int → Int → Prop) (g : Int → Int → V) : R2 := fun x y H Q => ∃ i j, x = .int i ∧ y = .int j ∧ C i j ∧ Q (g i j) H
def rI0 (g : Int → Int → V) : R2 := fun x y H Q => ∃ i j, x = .int i ∧ y = .int j ∧ Q (g i j) H
def rU (g : Int → V) : V → Hp → VK → Prop := fun x H Q => ∃ i, x = .int i ∧ Q (g i) H
section
variable {X : Cx} {a b c : Expr} {ta tb tc : TE} {pos : Pos}
theorem binT (ha : PE X a ta) (hb : PE X b tb) {pins : List (Addr × Obj)} {s : Shared} {σ : St} {H : Hp} {R : V → V → Hp → Prop} (I : Inv X pins σ H s)
    (h : ta σ H fun x H1 => tb σ H1 fun y H2 => R x y H2) {Q : Value → Shared → Prop} {f : Value → Value → Sem Value}
    (hf : ∀ v u s2 x y H2, Inv X pins σ H2 s2 → RelV x v → RelV y u → R x y H2 → wpAny (model X.prog X.w) X.A (f v u) Q X.xe s2) :
    wpAny (model X.prog X.w) X.A (eval a X.env) (fun v s₁ => wpAny (model X.prog X.w) X.A (eval b X.env) (fun u s₂ => wpAny (model X.prog X.w) X.A (f v u) Q X.xe s₂) X.xe s₁) X.xe s := by
  refine thn (ha pins s σ H _ I h) fun v s1 ⟨x, H1, I1, r1, q1⟩ => ?_
  refine thn (hb pins s1 σ H1 _ I1 q1) fun u s2 ⟨y, H2, I2, r2, q2⟩ => ?_
  exact hf v u s2 x y H2 I2 r1 r2 q2
theorem pe_op {op : Operator} {r : R2} (ho : OpR X (binaryOp op) r) (ha : PE X a ta) (hb : PE X b tb) : PE X (.BinOp a op b pos) (tOp r ta tb) := by
  intro pins s σ H Q I h
  exact wpAny_BinOp (binT ha hb I h fun v u s2 x y H2 I2 rx ry q => ho pins s2 σ H2 x y v u Q I2 rx ry q)
theorem pe_un {op : UnaryOp} {r : V → Hp → VK → Prop} (ho : UnR X (unaryOp op) r) (ha : PE X a ta) : PE X (.UnaryOp op a pos) (tUn r ta) := by
  intro pins s σ H Q I h
  exact UnaryOp_ (thn (ha pins s σ H _ I h) fun v s1 ⟨x, H1, I1, r1, q1⟩ => ho pins s1 σ H1 x v Q I1 r1 q1)
theorem opI {f : Value → Value → Sem Value} {C : Int → Int → Prop} {g : Int → Int → Int}
    (rule : ∀ (i j : Int) (t u : Tok) (s : Shared) (Q : Value → Shared → Prop) (E : Value → Shared → Prop), C i j → Q (.int (g i j) s.toks) { s with toks := s.toks + 1 } → wpAny (model X.prog X.w) X.A (f (.int i t) (.int j u)) Q E s) :
    OpR X f (rI C fun i j => .int (g i j)) := by
  intro pins s σ H x y v u Q I rx ry h
  obtain ⟨i, j, rfl, rfl, hc, q⟩ := h
  obtain ⟨t, rfl⟩ := rx
  obtain ⟨t', rfl⟩ := ry
  exact rule i j t t' s _ _ hc ⟨.int (g i j), H, I.tok _, ⟨_, rfl⟩, q⟩
theorem opI0 {f : Value → Value → Sem Value} {g : Int → Int → Int}
    (rule : ∀ (i j : Int) (t u : Tok) (s : Shared) (Q : Value → Shared → Prop) (E : Value → Shared → Prop), Q (.int (g i j) s.toks) { s with toks := s.toks + 1 } → wpAny (model X.prog X.w) X.A (f (.int i t) (.int j u)) Q E s) :
    OpR X f (rI0 fun i j => .int (g i j)) := by
  intro pins s σ H x y v u Q I rx ry h
  obtain ⟨i, j, rfl, rfl, q⟩ := h
  obtain ⟨t, rfl⟩ := rx
  obtain ⟨t', rfl⟩ := ry
  exact rule i j t t' s _ _ ⟨.int (g i j), H, I.tok _, ⟨_, rfl⟩, q⟩
theorem opB0 {f : Value → Value → Sem Value} {g : Int → Int → Bool}
    (rule : ∀ (i j : Int) (t u : Tok) (s : Shared) (Q : Value → Shared → Prop) (E : Value → Shared → Prop), Q (.bool (g i j)) s → wpAny (model X.prog X.w) X.A (f (.int i t) (.int j u)) Q E s) :
    OpR X f (rI0 fun i j => .bl (g i j)) := by
  intro pins s σ H x y v u Q I rx ry h
  obtain ⟨i, j, rfl, rfl, q⟩ := h
  obtain ⟨t, rfl⟩ := rx
  obtain ⟨t', rfl⟩ := ry
  exact rule i j t t' s _ _ ⟨.bl (g i j), H, I, rfl, q⟩
def CDiv (i j : Int) : Prop := 0 < j ∧ j < 1073741824
def CDivN (i j : Int) : Prop := j ≠ 0 ∧ j.natAbs < 1073741824
def CPow (i j : Int) : Prop := 0 ≤ j ∧ j ≤ 1000000 ∧ i.natAbs < 2 ^ 64
def CMul (i j : Int) : Prop := (-(2 ^ 64) < i ∧ i < 2 ^ 64) ∨ (-(2 ^ 64) < j ∧ j < 2 ^ 64)
theorem CMul.ok {i j : Int} (h : CMul i j) : IntMulOk i j := by
  rcases h with ⟨h1, h2⟩ | ⟨h1, h2⟩
  · exact .of_left (intBits_le_64 h1 h2)
  · exact .of_right (intBits_le_64 h1 h2)
theorem op_add : OpR X (binaryOp .Add) (rI0 fun i j => .int (i + j)) := opI0 fun _ _ _ _ _ _ _ q => add_int q
theorem op_sub : OpR X (binaryOp .Sub) (rI0 fun i j => .int (i - j)) := opI0 fun _ _ _ _ _ _ _ q => sub_int q
theorem op_mul : OpR X (binaryOp .Mult) (rI CMul fun i j => .int (i * j)) := opI fun _ _ _ _ _ _ _ hc q => mul_int q hc.ok
/-- // by a positive divisor -/
theorem op_fdiv : OpR X (binaryOp .FloorDiv) (rI CDiv fun i j => .int (i / j)) := opI fun i j _ _ _ _ _ hc q => by
  have h1 : (0 : Int) < j := hc.1
  have h2 : j < 1073741824 := hc.2
  exact floordiv_int (by omega) (by rw [Int.fdiv_eq_ediv_of_nonneg i (by omega)]; exact q) (.inl (PyProof.noPylong_small (by omega)))
/-- % by a positive divisor of any size -/
theorem op_mod : OpR X (binaryOp .Mod) (rI (fun _ j => 0 < j) fun i j => .int (i % j)) := opI fun i j _ _ _ _ _ hc q => by
  have h1 : (0 : Int) < j := hc
  exact mod_int' (by omega) (by rw [Int.fmod_eq_emod_of_nonneg i (by omega)]; exact q)
theorem op_pow : OpR X (binaryOp .Pow) (rI CPow fun i j => .int (i ^ j.toNat)) := opI fun _ _ _ _ _ _ _ hc q => pow_int_small hc.1 hc.2.1 hc.2.2 q
theorem unI {f : Value → Sem Value} {g : Int → Int}
    (rule : ∀ (i : Int) (t : Tok) (s : Shared) (Q : Value → Shared → Prop) (E : Value → Shared → Prop), Q (.int (g i) s.toks) { s with toks := s.toks + 1 } → wpAny (model X.prog X.w) X.A (f (.int i t)) Q E s) :
    UnR X f (rU fun i => .int (g i)) := by
  intro pins s σ H x v Q I rx h
  obtain ⟨i, rfl, q⟩ := h
  obtain ⟨t, rfl⟩ := rx
  exact rule i t s _ _ ⟨.int (g i), H, I.tok _, ⟨_, rfl⟩, q⟩
theorem un_neg : UnR X (unaryOp .USub) (rU fun i => .int (-i)) := unI fun _ _ _ _ _ q => neg_int q
end
/-- the scalars that == tells apart as data does -/
def scal : V → V → Bool
  | .non, .non => true | .non, .int _ => true | .int _, .non => true | .non, .bl _ => true | .bl _, .non => true | .non, .str _ => true | .str _, .non => true
  | .int _, .int _ => true | .bl _, .bl _ => true | .str _, .str _ => true | .byt _, .byt _ => true
  | .int _, .str _ => true | .str _, .int _ => true | .bl _, .str _ => true | .str _, .bl _ => true
  | _, _ => false
def rEq : R2 := fun x y H Q => scal x y = true ∧ Q (.bl (decide (x = y))) H
def rNe : R2 := fun x y H Q => scal x y = true ∧ Q (.bl (!decide (x = y))) H
theorem dec_int {i j : Int} : decide (V.int i = V.int j) = (i == j) := by
  rw [Bool.eq_iff_iff]
  simp
theorem dec_bl {i j : Bool} : decide (V.bl i = V.bl j) = (i == j) := by
  rw [Bool.eq_iff_iff]
  simp
theorem dec_str {i j : Str} : decide (V.str i = V.str j) = (i == j) := by
  rw [Bool.eq_iff_iff]
  simp
theorem dec_byt {i j : Array UInt8} : decide (V.byt i = V.byt j) = (i.toList == j.toList) := by
  rw [Bool.eq_iff_iff]
  cases i
  cases j
  simp
section
variable {X : Cx} {a b c : Expr} {ta tb tc : TE} {pos : Pos}
theorem fin_bl {pins : List (Addr × Obj)} {σ : St} {H : Hp} {s : Shared} {Q : VK} {k k' : Bool} (I : Inv X pins σ H s) (q : Q (.bl k) H) (e : k = k') : EP X pins σ Q (.bool k') s := by
  subst e
  exact ⟨.bl k, H, I, rfl, q⟩
theorem op_eq : OpR X (compareOp .Eq) rEq := by
  intro pins s σ H x y v u Q I rx ry h
  obtain ⟨hs, q⟩ := h
  cases x with
  | non =>
    cases rx
    cases y with
    | non => cases ry; exact PySem.EqNone.eq_none_none (fin_bl I q (by simp))
    | bl j => cases ry; exact PySem.EqNone.eq_none_bool (fin_bl I q (by simp))
    | int j => obtain ⟨t', rfl⟩ := ry; exact PySem.EqNone.eq_none_int (fin_bl I q (by simp))
    | str j => obtain ⟨t', rfl⟩ := ry; exact PySem.EqNone.eq_none_str (fin_bl I q (by simp))
    | _ => exact absurd (show false = true from hs) Bool.false_ne_true
  | bl i =>
    cases rx
    cases y with
    | non => cases ry; exact PySem.EqNone.eq_bool_none (fin_bl I q (by simp))
    | bl j => cases ry; exact eq_bool (fin_bl I q dec_bl)
    | str j => obtain ⟨t', rfl⟩ := ry; exact PySem.EqMixed.eq_bool_str (fin_bl I q (by simp))
    | _ => exact absurd (show false = true from hs) Bool.false_ne_true
  | int i =>
    obtain ⟨t, rfl⟩ := rx
    cases y with
    | non => cases ry; exact PySem.EqNone.eq_int_none (fin_bl I q (by simp))
    | int j => obtain ⟨t', rfl⟩ := ry; exact eq_int (fin_bl I q dec_int)
    | str j => obtain ⟨t', rfl⟩ := ry; exact PySem.EqMixed.eq_int_str (fin_bl I q (by simp))
    | _ => exact absurd (show false = true from hs) Bool.false_ne_true
  | str i =>
    obtain ⟨t, rfl⟩ := rx
    cases y with
    | non => cases ry; exact PySem.EqNone.eq_str_none (fin_bl I q (by simp))
    | bl j => cases ry; exact PySem.EqMixed.eq_str_bool (fin_bl I q (by simp))
    | int j => obtain ⟨t', rfl⟩ := ry; exact PySem.EqMixed.eq_str_int (fin_bl I q (by simp))
    | str j => obtain ⟨t', rfl⟩ := ry; exact eq_str (fin_bl I q dec_str)
    | _ => exact absurd (show false = true from hs) Bool.false_ne_true
  | byt i =>
    obtain ⟨t, rfl⟩ := rx
    cases y with
    | byt j => obtain ⟨t', rfl⟩ := ry; exact PySem.W.eq_bytes (fin_bl I q dec_byt)
    | _ => exact absurd (show false = true from hs) Bool.false_ne_true
  | _ => cases y <;> exact absurd (show false = true from hs) Bool.false_ne_true
theorem op_ne : OpR X (compareOp .NotEq) rNe := by
  intro pins s σ H x y v u Q I rx ry h
  obtain ⟨hs, q⟩ := h
  cases x with
  | non =>
    cases rx
    cases y with
    | non => cases ry; exact PySem.EqNone.ne_none_none (fin_bl I q (by simp))
    | bl j => cases ry; exact PySem.EqNone.ne_none_bool (fin_bl I q (by simp))
    | int j => obtain ⟨t', rfl⟩ := ry; exact PySem.EqNone.ne_none_int (fin_bl I q (by simp))
    | str j => obtain ⟨t', rfl⟩ := ry; exact PySem.EqNone.ne_none_str (fin_bl I q (by simp))
    | _ => exact absurd (show false = true from hs) Bool.false_ne_true
  | bl i =>
    cases rx
    cases y with
    | non => cases ry; exact PySem.EqNone.ne_bool_none (fin_bl I q (by simp))
    | bl j => cases ry; exact ne_bool (fin_bl I q (congrArg not dec_bl))
    | str j => obtain ⟨t', rfl⟩ := ry; exact PySem.EqMixed.ne_bool_str (fin_bl I q (by simp))
    | _ => exact absurd (show false = true from hs) Bool.false_ne_true
  | int i =>
    obtain ⟨t, rfl⟩ := rx
    cases y with
    | non => cases ry; exact PySem.EqNone.ne_int_none (fin_bl I q (by simp))
    | int j => obtain ⟨t', rfl⟩ := ry; exact ne_int (fin_bl I q (congrArg not dec_int))
    | str j => obtain ⟨t', rfl⟩ := ry; exact PySem.EqMixed.ne_int_str (fin_bl I q (by simp))
    | _ => exact absurd (show false = true from hs) Bool.false_ne_true
  | str i =>
    obtain ⟨t, rfl⟩ := rx
    cases y with
    | non => cases ry; exact PySem.EqNone.ne_str_none (fin_bl I q (by simp))
    | bl j => cases ry; exact PySem.EqMixed.ne_str_bool (fin_bl I q (by simp))
    | int j => obtain ⟨t', rfl⟩ := ry; exact PySem.EqMixed.ne_str_int (fin_bl I q (by simp))
    | str j => obtain ⟨t', rfl⟩ := ry; exact ne_str (fin_bl I q (congrArg not dec_str))
    | _ => exact absurd (show false = true from hs) Bool.false_ne_true
  | byt i =>
    obtain ⟨t, rfl⟩ := rx
    cases y with
    | byt j => obtain ⟨t', rfl⟩ := ry; exact PySem.W.ne_bytes (fin_bl I q (congrArg not dec_byt))
    | _ => exact absurd (show false = true from hs) Bool.false_ne_true
  | _ => cases y <;> exact absurd (show false = true from hs) Bool.false_ne_true
theorem op_lt : OpR X (compareOp .Lt) (rI0 fun i j => .bl (decide (i < j))) := opB0 fun _ _ _ _ _ _ _ q => lt_int q
theorem op_gt : OpR X (compareOp .Gt) (rI0 fun i j => .bl (decide (j < i))) := opB0 fun _ _ _ _ _ _ _ q => gt_int q
theorem op_ge : OpR X (compareOp .GtE) (rI0 fun i j => .bl (decide (j ≤ i))) := opB0 fun _ _ _ _ _ _ _ q => ge_int q
/-- is None, is not None: the right side a value none -/
theorem op_isN : OpR X (compareOp .Is) (fun x y H Q => y = .non ∧ Q (.bl (decide (x = .non))) H) := by
  intro pins s σ H x y v u Q I rx ry h
  obtain ⟨rfl, q⟩ := h
  cases ry
  refine is_none_gen (fin_bl I q ?_)
  cases x <;> first
    | (cases rx; rfl)
    | (obtain ⟨t, rfl⟩ := rx; rfl)
theorem op_notN : OpR X (compareOp .IsNot) (fun x y H Q => y = .non ∧ Q (.bl (!decide (x = .non))) H) := by
  intro pins s σ H x y v u Q I rx ry h
  obtain ⟨rfl, q⟩ := h
  cases ry
  refine isnot_none_gen (fin_bl I q ?_)
  cases x <;> first
    | (cases rx; rfl)
    | (obtain ⟨t, rfl⟩ := rx; rfl)
/-- is, is not of two objects that are tracked lists or instances -/
def isObj : HO → Bool
  | .lst _ => true
  | .ins _ _ _ => true
  | _ => false
theorem nomark (b : Expr) {op : CmpOp} (h : op ≠ .In := by decide) (h2 : op ≠ .NotIn := by decide) : behindInMarks op b = false := by
  have e1 : (op == CmpOp.In) = false := by cases op <;> first | rfl | exact absurd rfl h
  have e2 : (op == CmpOp.NotIn) = false := by cases op <;> first | rfl | exact absurd rfl h2
  cases b <;> simp [behindInMarks, e1, e2]
/-- a comparison as a value; hm: nomark b, or (for in, not in) by with_unfolding_all rfl -/
theorem pe_cmpR {op : CmpOp} {r : R2} (ho : OpR X (compareOp op) r) (ha : PE X a ta) (hb : PE X b tb) (hm : behindInMarks op b = false) : PE X (.Compare a [op] [b] pos) (tOp r ta tb) := by
  intro pins s σ H Q I h
  exact wpAny_Compare1 (binT ha hb I h fun v u s2 x y H2 I2 rx ry q => ho pins s2 σ H2 x y v u Q I2 rx ry q) hm
/-- a reading of a value as a test -/
def tTest (t : TE) : TT := fun σ H Q => t σ H fun x H' => ∃ k, x = .bl k ∧ Q k H'
theorem pt_cmpR {op : CmpOp} {r : R2} (ho : OpR X (compareOp op) r) (ha : PE X a ta) (hb : PE X b tb) (hm : behindInMarks op b = false) : PT X (.Compare a [op] [b] pos) (tTest (tOp r ta tb)) := by
  intro pins s σ H Q I h
  refine wpAny_isTrue_Compare1 (thn (ha pins s σ H _ I h) fun v s1 ⟨x, H1, I1, r1, q1⟩ => thn (hb pins s1 σ H1 _ I1 q1) fun u s2 ⟨y, H2, I2, r2, q2⟩ =>
    thn (ho pins s2 σ H2 x y v u _ I2 r1 r2 q2) fun c s3 ⟨z, H3, I3, r3, k, e, q3⟩ => ?_) hm
  subst e
  cases r3
  exact wpAny_truthy_bool ⟨H3, I3, q3⟩
/-- a op1 b op2 c -/
def tChain (r r' : R2) (ta tb tc : TE) : TE := fun σ H Q => ta σ H fun x H1 => tb σ H1 fun y H2 => r x y H2 fun z H3 => ∃ k, z = .bl k ∧
  (if k = true then tc σ H3 fun w' H4 => r' y w' H4 Q else Q (.bl false) H3)
/-- a value's truth by the abstract heap -/
def TruV (K : PySem.W.Frag) (x : V) (H : Hp) (k : Bool) : Prop :=
  match x with
  | .non => k = false
  | .bl b => k = b
  | .int i => k = (i != 0)
  | .str y => y.length ≤ sizeLine ∧ k = ((y.length : Int) != 0)
  | .byt y => y.size ≤ sizeLine ∧ k = ((y.size : Int) != 0)
  | .ref p => (∃ xs, SqL K H p xs ∧ k = !xs.isEmpty) ∨ (∃ xs, SqT K H p xs ∧ k = !xs.isEmpty) ∨ ∃ kvs, H p = some (.dK kvs) ∧ k = !kvs.isEmpty
  | _ => False
theorem line63 : (sizeLine : Nat) < 2 ^ 63 := by rw [sizeLine_eq]; decide
theorem op_add_str : OpR X (binaryOp .Add) (fun x y H Q => ∃ i j, x = .str i ∧ y = .str j ∧ i.length + j.length ≤ sizeLine ∧ Q (.str (i ++ j)) H) := by
  intro pins s σ H x y v u Q I rx ry h
  obtain ⟨i, j, rfl, rfl, hz, q⟩ := h
  obtain ⟨t, rfl⟩ := rx
  obtain ⟨t', rfl⟩ := ry
  exact add_str (fun t' tk => ⟨.str (i ++ j), H, I.tok _, ⟨_, rfl⟩, q⟩) hz
def PlainIxT (b : Expr) : Prop := ∀ o i, subscripted b false o i = operate [o, i] (getItem o i)
theorem vals1 {x : V} {us : List Value} (r : Vals [x] us) : ∃ u, us = [u] ∧ RelV x u := by
  cases r with
  | cons r1 r2 => cases r2; exact ⟨_, rfl, r1⟩
theorem vals2 {x y : V} {us : List Value} (r : Vals [x, y] us) : ∃ u w', us = [u, w'] ∧ RelV x u ∧ RelV y w' := by
  cases r with
  | cons r1 r2 =>
    cases r2 with
    | cons r3 r4 => cases r4; exact ⟨_, _, rfl, r1, r3⟩
theorem call_abs : CallR X (.builtin "abs") (fun xs H Q => ∃ i, xs = [.int i] ∧ Q (.int (if i < 0 then -i else i)) H) := by
  intro pins s σ H xs us Q I r h
  obtain ⟨i, rfl, q⟩ := h
  obtain ⟨u, rfl, t, rfl⟩ := vals1 r
  exact call_abs_int fun u tk => ⟨.int (if i < 0 then -i else i), H, I.tok _, ⟨_, rfl⟩, q⟩
theorem call_min2 (hc : X.calm = true) : CallR X (.builtin "min") (fun xs H Q => ∃ i j, xs = [.int i, .int j] ∧ Q (.int (if j < i then j else i)) H) := by
  intro pins s σ H xs us Q I r h
  obtain ⟨i, j, rfl, q⟩ := h
  obtain ⟨u, w', rfl, ⟨t, rfl⟩, ⟨t', rfl⟩⟩ := vals2 r
  refine min_two_ints (I.ok.hd hc) fun h' tk k => ⟨_, H, I.kept k, ?_, q⟩
  by_cases hj : j < i
  · rw [if_pos hj, if_pos hj]; exact ⟨_, rfl⟩
  · rw [if_neg hj, if_neg hj]; exact ⟨_, rfl⟩
theorem call_int1 : CallR X (.type "int") (fun xs H Q => (∃ i, xs = [.int i] ∧ Q (.int i) H) ∨ ∃ k, xs = [.bl k] ∧ Q (.int (if k then 1 else 0)) H) := by
  intro pins s σ H xs us Q I r h
  rcases h with ⟨i, rfl, q⟩ | ⟨k, rfl, q⟩
  · obtain ⟨u, rfl, t, rfl⟩ := vals1 r
    exact call_int_int ⟨.int i, H, I, ⟨_, rfl⟩, q⟩
  · obtain ⟨u, rfl, r1⟩ := vals1 r
    cases r1
    exact call_int_bool ⟨.int (if k then 1 else 0), H, I.tok _, ⟨_, rfl⟩, q⟩
/-- len of a str, a bytes, a list, a tuple -/
def LenV (K : PySem.W.Frag) (x : V) (H : Hp) (n : Nat) : Prop :=
  match x with
  | .str y => y.length ≤ sizeLine ∧ n = y.length
  | .byt y => y.size ≤ sizeLine ∧ n = y.size
  | .ref p => (∃ xs, SqL K H p xs ∧ n = xs.length) ∨ ∃ xs, SqT K H p xs ∧ n = xs.length
  | _ => False
end
end L2
namespace L2
open PySem PySem.Spec PyProof.Rows
structure ObjM (h : Heap) (x dx C : Addr) (mA : Str → Option Value) : Prop where
  obj : h.get? x = some (PySem.W.instObj C dx)
  ns : h.Ns1 dx mA
  ne : dx ≠ x
theorem lookIn_ns {h : Heap} {dx : Addr} {mA : Str → Option Value} (n : h.Ns1 dx mA) : ∃ od, h.get? dx = some od ∧ ∀ name, PySem.W.lookIn name od = some (mA name) := by
  obtain ⟨o, es, ep, ho, hd, hk, _, hm⟩ := n
  refine ⟨o, ho, fun name => ?_⟩
  have e := hm name
  unfold nsFind findBy at e
  rw [← Array.find?_toList] at e
  unfold PySem.W.lookIn
  rw [hd]
  dsimp only
  split
  · rename_i y q
    rw [q] at e
    exact congrArg some e
  · rename_i q
    rw [q] at e
    have a : es.toList.any (·.refKey) = false := by
      rw [List.any_eq_false]
      intro y hy
      obtain ⟨z, t, hkey⟩ := hk y (Array.mem_toList_iff.mp hy)
      simp [DictEntry.refKey, hkey]
    have a' : ¬ es.toList.any (·.refKey) = true := by rw [a]; exact Bool.false_ne_true
    rw [if_neg a']
    exact congrArg some e
theorem ObjM.look {h : Heap} {x dx C : Addr} {mA : Str → Option Value} (I : ObjM h x dx C mA) : ∃ od, PySem.W.InstAt h x (PySem.W.instObj C dx) C (some od) ∧ ∀ name, PySem.W.lookIn name od = some (mA name) :=
  let ⟨od, ho, hl⟩ := lookIn_ns I.ns
  ⟨od, ⟨I.obj, rfl, rfl, ho⟩, hl⟩
section
variable {prog : Program} {w : World} {A : Around} {E : Value → Shared → Prop} {s : Shared} {K : PySem.W.Frag} {x dx C f : Addr} {mA : Str → Option Value} {name : Str} {v : Value}
end
def putF (f : Str) (v : V) : List (Str × V) → List (Str × V)
  | [] => [(f, v)]
  | (g, x) :: r => if g = f then (g, v) :: r else (g, x) :: putF f v r
theorem RelO.some_of {v : V} {o : Option Value} (r : RelO (some v) o) : ∃ u, o = some u ∧ RelV v u := by
  cases o with
  | none => exact (show False from r).elim
  | some u => exact ⟨u, rfl, r⟩
section
variable {P : Program} {w : World} {H H' : Hp} {h h' : Heap} {a C dx : Addr} {fs fs' : List (Str × V)}
end
structure Cls (K : PySem.W.Frag) (C : Addr) : Prop where
  pg : PySem.W.plainGet K C Str.empty = true
  hd : PySem.W.hasDictIn K C = true
  po : PySem.W.plainOver K C = true
  sa : PySem.W.findIn K (.ref C) "__setattr__" = some (some (.builtin "object.__setattr__"))
theorem Cls.get {K : PySem.W.Frag} {C : Addr} (c : Cls K C) (f : Str) : PySem.W.plainGet K C f = true := c.pg
/-- no class of it has the name -/
def NoAttr (K : PySem.W.Frag) (C : Addr) (f : Str) : Prop := PySem.W.findIn K (.ref C) f = some none
/-- a constant of the class -/
structure Con (K : PySem.W.Frag) (C : Addr) (f : Str) (v : V) (u : Value) : Prop where
  at_ : PySem.W.findIn K (.ref C) f = some (some u)
  rel : RelV v u
  get : PySem.W.specialIn K u "__get__" = some none
  cp : PySem.W.copiedNames.contains f = false
/-- a method: a plain def of the class or of one above it -/
structure Meth (K : PySem.W.Frag) (C : Addr) (m : Str) (f : Addr) : Prop where
  at_ : PySem.W.findIn K (.ref C) m = some (some (.ref f))
  fn : PySem.W.isFn K (.ref f) = true
  kp : PySem.W.keepIn K (.ref f) = true
section
variable {X : Cx} {pins : List (Addr × Obj)} {σ : St} {H : Hp} {s : Shared} {a C dx : Addr} {fs : List (Str × V)} {f : Str} {v : V} {A : Around} {E : Value → Shared → Prop}
/-- a new instance, tracked, without attributes -/
theorem Inv.made (I : Inv X pins σ H s) : Inv X pins σ (upd (upd H s.heap.objs.size (.own (s.heap.objs.size + 1))) (s.heap.objs.size + 1) (.ins C s.heap.objs.size []))
    { s with heap := (s.heap.push PySem.W.emptyDict).push (PySem.W.instObj C s.heap.objs.size) } := by
  have e1 : (s.heap.push PySem.W.emptyDict).get? s.heap.objs.size = some PySem.W.emptyDict := Heap.get?_push_size s.heap rfl
  have e2 : ((s.heap.push PySem.W.emptyDict).push (PySem.W.instObj C s.heap.objs.size)).get? (s.heap.objs.size + 1) = some (PySem.W.instObj C s.heap.objs.size) := by
    have := Heap.get?_push_size (s.heap.push PySem.W.emptyDict) (o := PySem.W.instObj C s.heap.objs.size) rfl
    rwa [Heap.size_push] at this
  have e3 : (s.heap.push PySem.W.emptyDict).Ns s.heap.objs.size (fun _ => none) := ⟨PySem.W.emptyDict, #[], _, e1, rfl, (fun e he => absurd he (by simp)), fun _ => rfl⟩
  have I1 := I.laid (a := s.heap.objs.size) (o := .own (s.heap.objs.size + 1)) (h' := s.heap.push PySem.W.emptyDict) (t' := s.toks) (fun b u q => Heap.get?_push_of_some _ q) (Nat.le_refl _) ⟨_, e1⟩
  refine I1.laid (a := s.heap.objs.size + 1) (o := .ins C s.heap.objs.size []) (t' := s.toks) (fun b u q => Heap.get?_push_of_some _ q) (Nat.le_of_eq (Heap.size_push _ _)) ?_
  have ne : s.heap.objs.size ≠ s.heap.objs.size + 1 := Nat.ne_of_lt (Nat.lt_succ_self _)
  refine ⟨by rw [upd_ne ne, upd_same], Nat.zero_le _, ne, e2, fun _ => none, (Heap.Ns1.of_empty e3).at fun o q => Heap.get?_push_of_some _ q, fun _ => True.intro, fun y hy => absurd rfl hy⟩
end
/-- e.f, an attribute of the instance -/
def tFld (K : PySem.W.Frag) (ta : TE) (f : Str) : TE := fun σ H Q => ta σ H fun x H1 => ∃ a C dx fs v, x = .ref a ∧ H1 a = some (.ins C dx fs) ∧ Cls K C ∧ NoAttr K C f ∧ fs.lookup f = some v ∧ Q v H1
/-- e.f, a constant of the class -/
def tCon (K : PySem.W.Frag) (ta : TE) (f : Str) : TE := fun σ H Q => ta σ H fun x H1 => ∃ a C dx fs v u, x = .ref a ∧ H1 a = some (.ins C dx fs) ∧ Cls K C ∧ Con K C f v u ∧ fs.lookup f = none ∧ Q v H1
/-- e.f = value -/
def sFld (K : PySem.W.Frag) (ta tv : TE) (f : Str) : TS := fun D σ H => tv σ H fun y H1 => ta σ H1 fun x H2 => ∃ a C dx fs, x = .ref a ∧ H2 a = some (.ins C dx fs) ∧ Cls K C ∧ NoAttr K C f ∧ fs.length < 1000 ∧
  D.nx σ (upd H2 a (.ins C dx (putF f y fs)))
/-- an augmented operator on two values -/
def InOp (X : Cx) (op : Operator) (rd : V → V → Hp → VK → Prop) : Prop :=
  ∀ (pins : List (Addr × Obj)) (s : Shared) (σ : St) (H : Hp) (x y : V) (u v : Value) (Q : VK), Inv X pins σ H s → RelV x u → RelV y v → rd x y H Q → wpAny (model X.prog X.w) X.A (inplaceOp op u v) (EP X pins σ Q) X.xe s
/-- e.f op= value -/
def sFldAug (K : PySem.W.Frag) (ta tv : TE) (rd : V → V → Hp → VK → Prop) (f : Str) : TS := fun D σ H => ta σ H fun x H1 => ∃ a C dx fs v, x = .ref a ∧ H1 a = some (.ins C dx fs) ∧ Cls K C ∧ NoAttr K C f ∧ fs.lookup f = some v ∧
  tv σ H1 fun y H2 => rd v y H2 fun z H3 => ∃ dx' fs', H3 a = some (.ins C dx' fs') ∧ fs'.length < 1000 ∧ D.nx σ (upd H3 a (.ins C dx' (putF f z fs')))
section
variable {X : Cx} {o e value : Expr} {f : Str} {pos pos' tpos : Pos} {ta tv : TE}
def rAdd : V → V → Hp → VK → Prop := fun x y H Q => ∃ i j, x = .int i ∧ y = .int j ∧ Q (.int (i + j)) H
def rSub : V → V → Hp → VK → Prop := fun x y H Q => ∃ i j, x = .int i ∧ y = .int j ∧ Q (.int (i - j)) H
end
section
variable {X : Cx} {pins : List (Addr × Obj)} {σ : St} {H : Hp} {s : Shared} {A : Around} {E : Value → Shared → Prop} {Q : Value → Shared → Prop} {c : Value} {b : Bool}
/-- the type of a value, as the fragment's deciders take it; for an instance its class -/
inductive TyOf (K : PySem.W.Frag) (H : Hp) : V → Value → Prop where
  | non : TyOf K H .non (.type "NoneType")
  | bl (x : Bool) : TyOf K H (.bl x) (.type "bool")
  | int (i : Int) : TyOf K H (.int i) (.type "int")
  | str (x : Str) : TyOf K H (.str x) (.type "str")
  | flt (x : UInt64) : TyOf K H (.flt x) (.type "float")
  | lst {a : Addr} {xs : List V} (e : H a = some (.lst xs)) : TyOf K H (.ref a) (.type "list")
  | frz {a : Addr} {o : Obj} {xs : List V} (e : H a = some (.frz o (.lst xs))) : TyOf K H (.ref a) (.type "list")
  | tup {a : Addr} {xs : List V} (e : H a = some (.tup xs)) : TyOf K H (.ref a) (.type "tuple")
  | dK {a : Addr} {kvs : List (Key × V)} (e : H a = some (.dK kvs)) : TyOf K H (.ref a) (.type "dict")
  | dT {a : Addr} {kvs : List (List Key × V)} (e : H a = some (.dT kvs)) : TyOf K H (.ref a) (.type "dict")
  | ins {a C dx : Addr} {fs : List (Str × V)} (e : H a = some (.ins C dx fs)) (cl : Cls K C) (ha : PySem.W.findIn K (.ref C) "__class__" = some (some (.builtin "object.__class__")))
      (hn : PySem.W.specialIn K (.builtin "object.__class__") "__get__" = some (some (.builtin "getset_descriptor.__get__"))) (htk : PySem.W.takesIn K (.builtin "object.__class__") = some true)
      (hm : PySem.W.mroIn K C (.type "object") = some true) : TyOf K H (.ref a) (.ref C)
end
end L2
namespace L2
open PySem PySem.Spec PyProof.Rows
structure Room (k : Nat) (A : Around) : Prop where
  hd : A.handled = none
  dp : A.depth + 3 * k + 5 < recursionLimit
  un : A.units + 16 * k + 200 < cLine
  gd : A.guards = some []
theorem Room.mono {j k : Nat} {A : Around} (r : Room k A) (h : j ≤ k) : Room j A := ⟨r.hd, by have := r.dp; omega, by have := r.un; omega, r.gd⟩
theorem Room.deeper {k : Nat} {A : Around} (r : Room (k + 1) A) (env : Env) : Room k (A.deeper env) :=
  ⟨r.hd, by have := r.dp; show A.depth + 1 + 3 * k + 5 < _; omega, by have := r.un; show A.units + 3 + 16 * k + 200 < _; omega, r.gd⟩
theorem Room.in1 {k : Nat} {A : Around} (r : Room (k + 1) A) : Room k A.in1 :=
  ⟨r.hd, by have := r.dp; show A.depth + 3 * k + 5 < _; omega, by have := r.un; show A.units + 1 + 16 * k + 200 < _; omega, r.gd⟩
theorem Room.depth {k : Nat} {A : Around} (r : Room k A) : A.depth < recursionLimit := by have := r.dp; omega
theorem Room.units {k : Nat} {A : Around} (r : Room k A) : A.units + 64 < cLine := by have := r.un; omega
def tNil : TA := fun _ H Q => Q [] H
def tCons (ta : TE) (tr : TA) : TA := fun σ H Q => ta σ H fun x H1 => tr σ H1 fun xs H2 => Q (x :: xs) H2
section
variable {X : Cx} {e : Expr} {es : List Expr} {te : TE} {t : TA} {pos : Pos}
theorem pa_nil : PA X [] tNil := fun _ _ _ _ H Q I h => Calls.spliced_nil ⟨[], H, I, .nil, h⟩
theorem pa_cons (ha : PE X e te) (hr : PA X es t) (hs : starEach (e :: es) X.env = (false, eval e X.env) :: starEach es X.env := by rfl) : PA X (e :: es) (tCons te t) := by
  intro pos pins s σ H Q I h
  rw [hs]
  show wpAny _ _ (spliced ((false, eval e X.env) :: backTo pos (starEach es X.env))) _ _ s
  refine Calls.spliced_cons (thn (ha pins s σ H _ I h) fun u s1 ⟨x, H1, I1, r1, q1⟩ => ?_)
  exact thn (hr pos pins s1 σ H1 _ I1 q1) fun us s2 ⟨xs, H2, I2, r2, q2⟩ => ⟨x :: xs, H2, I2, .cons r1 r2, q2⟩
/-- a tuple, a list of written items -/
def tTup (t : TA) : TE := fun σ H Q => t σ H fun xs H1 => xs.length ≤ sizeLine ∧ ∀ p, H1 p = none → Q (.ref p) (upd H1 p (.tup xs))
def tLst (t : TA) : TE := fun σ H Q => t σ H fun xs H1 => xs.length ≤ sizeLine ∧ ∀ p, H1 p = none → Q (.ref p) (upd H1 p (.lst xs))
theorem pe_tup {x1} (h : PA X es t) : PE X (.Tuple es x1 pos) (tTup t) := by
  intro pins s σ H Q I hq
  refine wpAny_Tuple_spliced (thn (h pos pins s σ H _ I hq) fun us s1 ⟨xs, H1, I1, r, z, q⟩ => ⟨by rw [← r.length]; exact z, ?_⟩)
  have hf : H1 s1.heap.objs.size = none := I1.hok.fresh (Nat.le_refl _)
  refine ⟨.ref s1.heap.objs.size, upd H1 s1.heap.objs.size (.tup xs), I1.laid (t' := s1.toks) (fun b u e => Heap.get?_push_of_some _ e) (Nat.le_refl _) ?_, rfl, q _ hf⟩
  exact ⟨z, us, r, ⟨_, Heap.get?_push_size _ rfl, rfl, _, rfl⟩⟩
theorem pe_lst (h : PA X es t) : PE X (.List es pos) (tLst t) := by
  intro pins s σ H Q I hq
  refine wpAny_List_spliced (thn (h pos pins s σ H _ I hq) fun us s1 ⟨xs, H1, I1, r, z, q⟩ => ⟨by rw [← r.length]; exact z, ?_⟩)
  have hf : H1 s1.heap.objs.size = none := I1.hok.fresh (Nat.le_refl _)
  refine ⟨.ref s1.heap.objs.size, upd H1 s1.heap.objs.size (.lst xs), I1.laid (t' := s1.toks) (fun b u e => Heap.get?_push_of_some _ e) (Nat.le_refl _) ?_, rfl, q _ hf⟩
  exact ⟨z, us, 0, r, Heap.get?_push_size _ rfl⟩
end
/-- a def's promise: the bound arguments in the parameters' order, the heap, the wanted end, the wanted exception -/
abbrev Sp := List V → Hp → VK → XK → Prop
/-- how an exception lies behind a call (file 08 gives it): the callers' frames, abstract heap and state ahead of the call, the wish, the exception, the state -/
abbrev CXT := List Env → Hp → Shared → XK → Value → Shared → Prop
/-- the state at a call -/
structure Env0 (P : Program) (w : World) (K : PySem.W.Frag) (mg : Str → Option Value) (base : Heap) (A : Around) (outer : List Env) (s : Shared) (H : Hp) : Prop where
  frames : A.frames = some outer
  mod : Mod K mg base
  bs : ∀ b o, base.get? b = some o → s.heap.get? b = some o ∧ H b = none
  bsz : base.objs.size ≤ s.heap.objs.size
  funs : s.heap.FunFrames base outer
  frf : ∀ b ∈ frs outer, H b = none
  hok : HOk P w H s.heap
  bare : AllBare s.gens
/-- a call's end -/
def CE (outer : List Env) (P : Program) (w : World) (H : Hp) (s : Shared) (Q : VK) (u : Value) (s' : Shared) : Prop :=
  ∃ v H', s'.os = s.os ∧ AllBare s'.gens ∧ Un (frs outer) [] H H' s.heap s'.heap ∧ HOk P w H' s'.heap ∧ RelV v u ∧ Q v H'
def CR (CX : CXT) (outer : List Env) (P : Program) (w : World) (H : Hp) (s : Shared) (Q : VK) (E : XK) (r : Result) (s' : Shared) : Prop :=
  match r with
  | .ok (.ret u) => CE outer P w H s Q u s'
  | .ok _ => False
  | .error e => CX outer H s E e s'
structure FnOk (P : Program) (w : World) (K : PySem.W.Frag) (mg : Str → Option Value) (base : Heap) (CX : CXT) (k : Nat) (f : Addr) (fd : FuncData) (ps : List Str) (sp : Sp) : Prop where
  len : ∀ vs H Q E, sp vs H Q E → vs.length = ps.length
  run : ∀ (A : Around) (outer : List Env) (s : Shared) (H : Hp) (args : Args) (us : List Value) (vs : List V) (Q : VK) (E : XK), Room k A → Env0 P w K mg base A outer s H → BindsTo s fd args (ps.zip us) → Vals vs us → sp vs H Q E →
    codeAny (model P w) A (.call (.ref f) args) (CR CX outer P w H s Q E) s
theorem FnOk.mono {P : Program} {w : World} {K : PySem.W.Frag} {mg : Str → Option Value} {base : Heap} {CX : CXT} {j k : Nat} {f : Addr} {fd : FuncData} {ps : List Str} {sp : Sp} (F : FnOk P w K mg base CX j f fd ps sp) (h : j ≤ k) :
    FnOk P w K mg base CX k f fd ps sp := ⟨F.len, fun A outer s H args us vs Q E hr => F.run A outer s H args us vs Q E (hr.mono h)⟩
/-- a weaker promise -/
theorem FnOk.imp {P : Program} {w : World} {K : PySem.W.Frag} {mg : Str → Option Value} {base : Heap} {CX : CXT} {k : Nat} {f : Addr} {fd : FuncData} {ps : List Str} {sp sp' : Sp} (F : FnOk P w K mg base CX k f fd ps sp)
    (h : ∀ vs H Q E, sp' vs H Q E → sp vs H Q E) : FnOk P w K mg base CX k f fd ps sp' :=
  ⟨fun vs H Q E q => F.len vs H Q E (h _ _ _ _ q), fun A outer s H args us vs Q E hr he hb hv hs => F.run A outer s H args us vs Q E hr he hb hv (h _ _ _ _ hs)⟩
theorem Env0.in1 {P : Program} {w : World} {K : PySem.W.Frag} {mg : Str → Option Value} {base : Heap} {A : Around} {outer : List Env} {s : Shared} {H : Hp} (e : Env0 P w K mg base A outer s H) :
    Env0 P w K mg base A.in1 outer s H := ⟨e.frames, e.mod, e.bs, e.bsz, e.funs, e.frf, e.hok, e.bare⟩
section
variable {X : Cx} {pins : List (Addr × Obj)} {σ : St} {H : Hp} {s s' : Shared}
/-- from a body: what a callee wants -/
theorem Inv.env0 (I : Inv X pins σ H s) : Env0 X.prog X.w X.K X.mg X.base X.A X.stack s H :=
  ⟨I.ok.frames, I.ok.mod, I.bs, Nat.le_trans I.ok.bsz I.sz, I.stack, I.stkFree, I.hok, I.bare⟩
/-- behind a call -/
theorem Inv.after {Q : VK} {u : Value} (I : Inv X pins σ H s) (h : CE X.stack X.prog X.w H s Q u s') : EP X pins σ Q u s' := by
  obtain ⟨v, H', os, bare, un, hok, r, q⟩ := h
  obtain ⟨hh, g, d, t, os'⟩ := s'
  obtain rfl : os' = s.os := os
  exact ⟨v, H', I.call (h' := hh) (g' := g) (d' := d) (t' := t) (ch := []) un hok bare (fun b z => absurd z (by simp)), r, q⟩
end
/-- f(..): the written arguments, then the defaults dvs; E: what is wanted of an exception -/
def tCall (sp : Sp) (dvs : List V) (E : XK) (t : TA) : TE := fun σ H Q => t σ H fun vs H1 => sp (vs ++ dvs) H1 Q E
/-- o.m(..) of an instance of the class at C -/
def tMeth (C : Addr) (m : Str) (sp : Sp) (dvs : List V) (E : XK) (ta : TE) (t : TA) : TE := fun σ H Q => ta σ H fun x H1 => ∃ a dx fs, x = .ref a ∧ H1 a = some (.ins C dx fs) ∧ fs.lookup m = none ∧
  t σ H1 fun vs H2 => sp (x :: (vs ++ dvs)) H2 Q E
/-- C(..): a new instance and its dict, then __init__ -/
def tMake (C : Addr) (sp : Sp) (dvs : List V) (E : XK) (t : TA) : TE := fun σ H Q => t σ H fun vs H1 => ∀ x dx, H1 x = none → H1 dx = none → dx ≠ x →
  sp (.ref x :: (vs ++ dvs)) (upd (upd H1 dx (.own x)) x (.ins C dx [])) (fun v H2 => v = .non ∧ Q (.ref x) H2) E
/-- how the parameters are bound: us the positional arguments, kw the keywords' values by name, ds the defaults that fill up -/
def Binds (K : PySem.W.Frag) (fd : FuncData) (ps : List Str) (ds : List Value) : Prop :=
  ∀ (s : Shared) (us : List Value), K.In s.heap → (us ++ ds).length = ps.length → BindsTo s fd ⟨us, []⟩ (ps.zip (us ++ ds))
/-- every parameter is given -/
theorem Binds.all {K : PySem.W.Frag} {fd : FuncData} {ps : List Str} (h : ∀ us : List Value, us.length = ps.length → bindArgs fd ⟨us, []⟩ = pure (ps.zip us)) : Binds K fd ps [] := fun s us _ hl => by
  rw [List.append_nil] at hl ⊢
  exact .of_eq (h us hl)
/-- an exception of a callee reaches what this body wants of exceptions -/
def Passes (CX : CXT) (X : Cx) (E : XK) : Prop := ∀ (pins : List (Addr × Obj)) (σ : St) (H : Hp) (s : Shared) (e : Value) (s' : Shared), Inv X pins σ H s → CX X.stack H s E e s' → X.xe e s'
section
variable {X : Cx} {CX : CXT} {k : Nat} {f C : Addr} {fd : FuncData} {ps : List Str} {sp : Sp} {dvs : List V} {ds : List Value} {E : XK} {x m : Str} {p pos apos : Pos} {e o : Expr} {es : List Expr} {ta : TE} {t : TA}
/-- the callee runs -/
theorem run_fn {pins : List (Addr × Obj)} {σ : St} {H : Hp} {s : Shared} {Q : VK} {us : List Value} {vs : List V} (F : FnOk X.prog X.w X.K X.mg X.base CX k f fd ps sp) (hr : Room k X.A) (hb : Binds X.K fd ps ds) (hd : Vals dvs ds) (hx : Passes CX X E)
    (I : Inv X pins σ H s) (r : Vals vs us) (h : sp (vs ++ dvs) H Q E) : wpAny (model X.prog X.w) X.A (call (.ref f) us) (EP X pins σ Q) X.xe s := by
  have r2 : Vals (vs ++ dvs) (us ++ ds) := r.append hd
  have hl : (us ++ ds).length = ps.length := by rw [← r2.length]; exact F.len _ _ _ _ h
  refine wpAny_call (codeAny_mono (F.run X.A X.stack s H ⟨us, []⟩ (us ++ ds) (vs ++ dvs) Q E hr I.env0 (hb s us I.kIn hl) r2 h) fun r s' hq => ?_)
  cases r with
  | error e => exact hx pins σ H s e s' I hq
  | ok fl =>
    cases fl with
    | ret u => exact I.after hq
    | next => exact False.elim hq
    | brk => exact False.elim hq
    | cont => exact False.elim hq
theorem pe_call (F : FnOk X.prog X.w X.K X.mg X.base CX k f fd ps sp) (hr : Room k X.A) (hg : Gl X x) (hm : X.mg x = some (.ref f)) (hk : PySem.W.keepIn X.K (.ref f) = true) (hb : Binds X.K fd ps ds) (hd : Vals dvs ds) (hx : Passes CX X E)
    (ha : PA X (e :: es) t) (hdb : (x == ("__debug__" : Str)) = false := by decide) (he : starEach (e :: es) X.env = (false, eval e X.env) :: starEach es X.env := by rfl) (hpl : (backTo pos (starEach es X.env)).any (·.1) = false := by rfl) :
    PE X (.Call (.Name x p) (e :: es) [] pos) (tCall sp dvs E t) := by
  intro pins s σ H Q I h
  refine wpAny_Call_Name_kw (ld_glob I hg hm ?_ hdb)
  refine PySem.W.callWith_K (h₀ := X.base) I.ok.mod.kin hk (thn (ha pos pins s σ H _ I h) fun us s1 ⟨vs, H1, I1, r, q⟩ => ⟨I1.kIn, ?_⟩) he hpl
  exact run_fn F hr hb hd hx I1 r q
/-- what a class must have to be made -/
structure Mk (K : PySem.W.Frag) (C f : Addr) : Prop where
  makes : PySem.W.makesIn K C = true
  init : PySem.W.findIn K (.ref C) "__init__" = some (some (.ref f))
  fn : PySem.W.isFn K (.ref f) = true
  kp : PySem.W.keepIn K (.ref C) = true
end
/-- the values of the keywords, from the left -/
def PK (X : Cx) (kws : List Keyword) (t : TA) : Prop :=
  ∀ (pos : Pos) (pins : List (Addr × Obj)) (s : Shared) (σ : St) (H : Hp) (Q : List V → Hp → Prop), Inv X pins σ H s → t σ H Q → wpAny (model X.prog X.w) X.A (evalAll ((backToKw pos (keywordEach kws X.env)).map (·.2))) (AP X pins σ Q) X.xe s
section
variable {X : Cx} {CX : CXT} {k : Nat} {f C : Addr} {fd : FuncData} {ps ks : List Str} {sp : Sp} {E : XK} {x m : Str} {p pos apos kpos : Pos} {e o : Expr} {es : List Expr} {kws : List Keyword} {te ta : TE} {t tk : TA} {nm : Option Str}
/-- how a call with keywords binds: g puts the positional values us and the keywords' values ws (names ks) in the parameters' order, defaults among them -/
structure KBinds (K : PySem.W.Frag) (fd : FuncData) (ps ks : List Str) (g : List Value → List Value → List Value) (gV : List V → List V → List V) : Prop where
  to : ∀ (s : Shared) (us ws : List Value), K.In s.heap → (g us ws).length = ps.length → BindsTo s fd ⟨us, ks.zip ws⟩ (ps.zip (g us ws))
  rel : ∀ {vs : List V} {us : List Value} {zs : List V} {ws : List Value}, Vals vs us → Vals zs ws → Vals (gV vs zs) (g us ws)
def tCallK (sp : Sp) (gV : List V → List V → List V) (E : XK) (t tk : TA) : TE := fun σ H Q => t σ H fun vs H1 => tk σ H1 fun zs H2 => sp (gV vs zs) H2 Q E
variable {g : List Value → List Value → List Value} {gV : List V → List V → List V}
end
/-- names: the parameters first -/
structure FnScope (N P : List Str) (sc : Scope) : Prop where
  kind : sc.kind = .function
  co : sc.isCoroutine = false
  gen : sc.isGenerator = false
  nd : N.Nodup
  pre : N.take P.length = P
  par : ∀ x ∈ P, sc.names.lookup x = some .local ∨ sc.names.lookup x = some .cell
  nofree : ∀ y ∈ sc.names, y.2 ≠ .free
theorem bindL_out {kindOf : Str → Option NameKind} {x : Str} : ∀ {binds : List (Str × Value)} {m : Str → Option Value}, (∀ v, (x, v) ∉ binds) → bindL kindOf binds m x = m x
  | [], _, _ => rfl
  | (n, v) :: r, m, h => by
    unfold bindL
    rw [bindL_out fun w hw => h w (List.mem_cons_of_mem _ hw)]
    split
    · have : x ≠ n := by rintro rfl; exact h v List.mem_cons_self
      simp [this]
    · rfl
theorem bindC_out {kindOf : Str → Option NameKind} {x : Str} : ∀ {binds : List (Str × Value)} {m : Str → Option Value}, (∀ v, (x, v) ∉ binds) → bindC kindOf binds m x = m x
  | [], _, _ => rfl
  | (n, v) :: r, m, h => by
    unfold bindC
    rw [bindC_out fun w hw => h w (List.mem_cons_of_mem _ hw)]
    split
    · rfl
    · have : x ≠ n := by rintro rfl; exact h v List.mem_cons_self
      simp [this]
theorem bindL_get {kindOf : Str → Option NameKind} {x : Str} {v : Value} : ∀ {P : List Str} {vs : List Value} {i : Nat} {m : Str → Option Value}, P.Nodup → P[i]? = some x → vs[i]? = some v → kindOf x = some .local →
    bindL kindOf (P.zip vs) m x = some v
  | [], _, _, _, _, h, _, _ => by simp at h
  | _ :: _, [], _, _, _, _, h, _ => by simp at h
  | p :: P, w :: vs, 0, m, nd, h1, h2, hk => by
    simp at h1 h2; subst h1; subst h2
    show bindL kindOf ((p, w) :: P.zip vs) m p = _
    unfold bindL
    rw [bindL_out fun v hv => (List.nodup_cons.mp nd).1 (List.of_mem_zip hv).1, if_pos hk]
    simp
  | p :: P, w :: vs, i + 1, m, nd, h1, h2, hk => by
    show bindL kindOf ((p, w) :: P.zip vs) m x = _
    unfold bindL
    exact bindL_get (i := i) (List.nodup_cons.mp nd).2 (by simpa using h1) (by simpa using h2) hk
theorem bindC_get {kindOf : Str → Option NameKind} {x : Str} {v : Value} : ∀ {P : List Str} {vs : List Value} {i : Nat} {m : Str → Option Value}, P.Nodup → P[i]? = some x → vs[i]? = some v → kindOf x ≠ some .local →
    bindC kindOf (P.zip vs) m x = some v
  | [], _, _, _, _, h, _, _ => by simp at h
  | _ :: _, [], _, _, _, _, h, _ => by simp at h
  | p :: P, w :: vs, 0, m, nd, h1, h2, hk => by
    simp at h1 h2; subst h1; subst h2
    show bindC kindOf ((p, w) :: P.zip vs) m p = _
    unfold bindC
    rw [bindC_out fun v hv => (List.nodup_cons.mp nd).1 (List.of_mem_zip hv).1, if_neg hk]
    simp
  | p :: P, w :: vs, i + 1, m, nd, h1, h2, hk => by
    show bindC kindOf ((p, w) :: P.zip vs) m x = _
    unfold bindC
    exact bindC_get (i := i) (List.nodup_cons.mp nd).2 (by simpa using h1) (by simpa using h2) hk
/-- the names' values at the entry -/
def start (N : List Str) (vs : List V) : St := vs.map some ++ List.replicate (N.length - vs.length) none
/-- the context of a def's body, at its entry; an exception leaves the frame, then lies as CX says -/
def cxOf (CX : CXT) (P : Program) (w : World) (K : PySem.W.Frag) (mg : Str → Option Value) (base : Heap) (N : List Str) (qual : Str) (scope : Scope) (f : Addr) (cd : Value) (A : Around) (outer : List Env) (s : Shared) (H : Hp) (E : XK) : Cx where
  prog := P
  w := w
  K := K
  mg := mg
  base := base
  A := A.deeper (envOfC qual scope s.heap.objs.size f cd)
  N := N
  s_0 := s
  H_0 := H
  env := envOfC qual scope s.heap.objs.size f cd
  outer := outer
  stack := envOfC qual scope s.heap.objs.size f cd :: outer
  ex := []
  calm := true
  fn := fun _ => true
  pn := []
  xe := fun e s' => wpAny (model P w) (A.deeper (envOfC qual scope s.heap.objs.size f cd)) (leaving (envOfC qual scope s.heap.objs.size f cd) e) (fun _ s'' => CX outer H s E e s'') (fun e' s'' => CX outer H s E e' s'') s'
theorem cell_has {sc : Scope} {n : Nat} {x : Str} (h : sc.names.lookup x = some .cell) : ∃ c, (cellsFrom n sc.names []).lookup x = some c := by
  have q := PySem.W.cellsFrom_some sc.names n [] (.inl h)
  exact Option.isSome_iff_exists.mp q
theorem inv_start {CX : CXT} {P : Program} {w : World} {K : PySem.W.Frag} {mg : Str → Option Value} {base : Heap} {N ps : List Str} {qual : Str} {scope : Scope} {f : Addr} {cd : Value} {A : Around} {outer : List Env} {s s1 : Shared} {H : Hp} {E : XK} {us : List Value} {vs : List V}
    (S : FnScope N ps scope) (hd : A.handled = none) (e0 : Env0 P w K mg base A outer s H) (hl : vs.length = ps.length) (r : Vals vs us)
    (x : InCallC s s.heap.objs.size (bindL (envOfC qual scope s.heap.objs.size f cd).kindOf (ps.zip us) fun _ => none) (cellsFrom (s.heap.objs.size + 1) scope.names []) (bindC (envOfC qual scope s.heap.objs.size f cd).kindOf (ps.zip us) fun _ => none) s1) :
    Inv (cxOf CX P w K mg base N qual scope f cd A outer s H E) [] (start N vs) H s1 := by
  have hpl : ps.length ≤ N.length := by have := congrArg List.length S.pre; rw [List.length_take] at this; omega
  obtain ⟨h1, tk, rfl, hk⟩ := x.done
  have noA : ∀ b : Addr, b ∉ (cxOf CX P w K mg base N qual scope f cd A outer s H E).ex := fun b z => absurd (show b ∈ ([] : List Addr) from z) (by simp)
  refine ⟨⟨e0.mod, S.kind, rfl, rfl, Nat.le_refl _, fun y z c h1 h2 => ?_, fun y hy => ?_, fun y c _ h => ?_, fun _ => hd, Around.frames_deeper e0.frames, .inr ⟨rfl, rfl⟩, fun b z => absurd z (noA b), e0.bs, e0.bsz, fun b _ _ => noA b, fun b z => absurd z (noA b), e0.funs, e0.frf⟩,
    rfl, e0.bare, Un.kept hk, ⟨_, x.toInCall.ns, fun i y v h1 h2 h3 => ?_⟩, fun y c h => ⟨_, x.cell y c h⟩, e0.hok.fresh (Nat.le_refl _), fun y c h => ?_, fun p hp => absurd (show p ∈ ([] : List (Addr × Obj)) from hp) (by simp), e0.hok.kept hk, ?_⟩
  · exact name_of_addr x.apart (PySem.mem_of_lookup h1) (PySem.mem_of_lookup h2)
  · have hy : scope.names.lookup y = some .cell ∨ scope.names.lookup y = some .free := hy
    rcases hy with hy | hy
    · exact cell_has hy
    · exact absurd rfl (S.nofree _ (PySem.mem_of_lookup hy))
  · exact Nat.le_of_lt (x.above y c (PySem.mem_of_lookup h))
  · have hi : i < vs.length := by
      unfold start at h2
      by_cases hi : i < vs.length
      · exact hi
      · rw [List.getElem?_append_right (by simpa using hi)] at h2
        rw [List.getElem?_replicate] at h2
        split at h2 <;> cases h2
    have ha : vs[i]? = some v := by
      unfold start at h2
      rw [List.getElem?_append_left (by simpa using hi), List.getElem?_map] at h2
      cases e : vs[i]? with
      | none => rw [e] at h2; cases h2
      | some a => rw [e] at h2; cases h2; rfl
    obtain ⟨u, hu, rv⟩ := r.get ha
    have hp : ps[i]? = some y := by
      rw [← S.pre, List.getElem?_take_of_lt (by omega)]; exact h1
    have ndP : ps.Nodup := by rw [← S.pre]; exact S.nd.sublist (List.take_sublist _ _)
    refine ⟨u, rv, ?_⟩
    rcases S.par y (List.mem_of_getElem? hp) with k | k
    · exact .inl ⟨k, bindL_get ndP hp hu k⟩
    · obtain ⟨c, e⟩ := cell_has (n := s.heap.objs.size + 1) k
      refine .inr ⟨.inl k, c, e, ?_⟩
      have q := x.cell y c e
      rw [bindC_get ndP hp hu (by show scope.names.lookup y ≠ _; rw [k]; decide)] at q
      exact q
  · exact e0.hok.fresh (Nat.le_of_lt (x.above y c (PySem.mem_of_lookup h)))
  · unfold start
    show _ = N.length
    rw [List.length_append, List.length_map, List.length_replicate]
    omega
/-- THE RULE: a def (or a method) of the text, by its body. The body's reading t is chosen for each entry; it is run at the parameters' values -/
theorem fn_of {CX : CXT} {P : Program} {w : World} {K : PySem.W.Frag} {mg : Str → Option Value} {base : Heap} {k : Nat} {f : Addr} {name qual : Str} {params : Arguments} {body : List Stmt} {scope : Scope} {dV kV doc pm cdv ct oc : Value} {an od : Option Addr}
    {osl : Array (Option Value)} {N ps : List Str} {sp : Sp} (lk : K.lookup f = some ⟨oc, od, .func (PySem.W.fnOf name qual params body scope dV kV doc pm an cdv ct), osl⟩) (hcd : PySem.W.codeIn K cdv qual = true) (S : FnScope N ps scope)
    (len : ∀ vs H Q E, sp vs H Q E → vs.length = ps.length)
    (hbody : ∀ (A : Around) (outer : List Env) (s : Shared) (H : Hp) (vs : List V) (Q : VK) (E : XK), Room k (A.deeper (envOfC qual scope s.heap.objs.size f cdv)) → sp vs H Q E →
      ∃ t, PSs (cxOf CX P w K mg base N qual scope f cdv A outer s H E) body t ∧ t { nx := fun _ H' => Q .non H', rt := Q } (start N vs) H) :
    FnOk P w K mg base CX (k + 1) f (PySem.W.fnOf name qual params body scope dV kV doc pm an cdv ct) ps sp := by
  refine ⟨len, fun A outer s H args us vs Q E hr e0 hb r hsp => ?_⟩
  have hl := len _ _ _ _ hsp
  have KX : K.In s.heap := e0.mod.kin.keeps fun b o e => (e0.bs b o e).1
  have lim : s.heap.NoLimit := e0.mod.nolimit.keeps fun b o e => (e0.bs b o e).1
  have hkind : ∀ y ∈ ps.zip us, scope.names.lookup y.1 = some .local ∨ (scope.names.lookup y.1 = some .cell ∧ ((cellsFrom (s.heap.objs.size + 1) scope.names []).lookup y.1).isSome = true) := fun ⟨n, v⟩ hy => by
    rcases S.par n (List.of_mem_zip hy).1 with q | q
    · exact .inl q
    · exact .inr ⟨q, PySem.W.cellsFrom_some _ _ _ (.inl q)⟩
  refine codeAny_call_function hr.depth (KX _ _ lk) rfl S.co S.gen rfl (PySem.W.codeRec_of KX hcd) (hb _ _ _ _ ?_)
  refine wpAny_newFunctionEnv_cells S.kind hkind fun env he s1 x => ?_
  subst he
  refine ⟨lim.keeps x.toInCall.keep, codeAny_func ?_⟩
  obtain ⟨t, ht, hq⟩ := hbody A outer s H vs Q E (hr.deeper _) hsp
  have I : Inv (cxOf CX P w K mg base N qual scope f cdv A outer s H E) [] (start N vs) H s1 := inv_start S hr.hd e0 hl r x
  refine wpAny_mono (ht [] s1 (start N vs) H _ I hq) (fun fl s' hs => ?_) fun e s' hs => hs
  have fin : ∀ {σ' : St} {H' : Hp} {v : V} {u : Value}, Inv (cxOf CX P w K mg base N qual scope f cdv A outer s H E) [] σ' H' s' → RelV v u → Q v H' → CE outer P w H s Q u s' :=
    fun {σ' H' v u} J rv q => ⟨v, H', J.os, J.bare, J.base, J.hok, rv, q⟩
  cases fl with
  | ret u =>
    obtain ⟨v, σ', H', J, rv, q⟩ := hs
    exact fin J rv q
  | next =>
    obtain ⟨σ', H', J, q⟩ := hs
    exact fin (v := V.non) (u := Value.none) J rfl q
  | brk =>
    obtain ⟨_, _, _, q⟩ := hs
    exact False.elim q
  | cont =>
    obtain ⟨_, _, _, q⟩ := hs
    exact False.elim q
end L2
namespace L2
open PySem PySem.Spec PyProof.Rows
section
variable {X : Cx} {x : Str} {p pos : Pos} {e : Expr} {es : List Expr} {t : TA} {id T : String} {r : List V → Hp → VK → Prop}
def tCB (r : List V → Hp → VK → Prop) (t : TA) : TE := fun σ H Q => t σ H fun vs H1 => r vs H1 Q
/-- f(e, ..), f a built-in function -/
theorem pe_callB (hc : CallR X (.builtin id) r) (hg : Gl X x) (hm : X.mg x = none) (hv : bootBuiltins x = some (.builtin id)) (ha : PA X (e :: es) t) (hn : x ≠ "__name__" := by decide) (hdb : (x == ("__debug__" : Str)) = false := by decide)
    (he : starEach (e :: es) X.env = (false, eval e X.env) :: starEach es X.env := by rfl) (hpl : (backTo pos (starEach es X.env)).any (·.1) = false := by rfl) : PE X (.Call (.Name x p) (e :: es) [] pos) (tCB r t) := by
  intro pins s σ H Q I h
  refine wpAny_Call_Name_kw (ld_blt I hg hm hv ?_ hn hdb)
  exact PyProof.Rows.callWith_builtin1 (thn (ha pos pins s σ H _ I h) fun us s1 ⟨vs, H1, I1, r1, q1⟩ => hc pins s1 σ H1 vs us Q I1 r1 q1) he hpl
/-- T(e, ..), T a built-in type -/
theorem pe_callTy (hc : CallR X (.type T) r) (hg : Gl X x) (hm : X.mg x = none) (hv : bootBuiltins x = some (.type T)) (ha : PA X (e :: es) t) (hn : x ≠ "__name__" := by decide) (hdb : (x == ("__debug__" : Str)) = false := by decide)
    (he : starEach (e :: es) X.env = (false, eval e X.env) :: starEach es X.env := by rfl) (hpl : (backTo pos (starEach es X.env)).any (·.1) = false := by rfl) : PE X (.Call (.Name x p) (e :: es) [] pos) (tCB r t) := by
  intro pins s σ H Q I h
  refine wpAny_Call_Name_kw (ld_blt I hg hm hv ?_ hn hdb)
  exact PyProof.Rows.callWith_type1 (thn (ha pos pins s σ H _ I h) fun us s1 ⟨vs, H1, I1, r1, q1⟩ => hc pins s1 σ H1 vs us Q I1 r1 q1) he hpl
end
end L2
namespace HT
open PySem PyProof.Rows
/-- t < u of tuples of ints -/
def lexLt : List Int → List Int → Bool
  | [], [] => false
  | [], _ :: _ => true
  | _ :: _, [] => false
  | x :: xs, y :: ys => if x = y then lexLt xs ys else decide (x < y)
section
open PySem.SeqAt
open PySem.AutoSeq1 (wpAny_loadPart')
open PySem.MeetsSeq PySem.MeetsSeq2 PySem.MeetsSeq3
end
section
variable {prog : Program} {w : World} {A : Around} {E : Value → Shared → Prop} {s : Shared}
/-- a slice's bound as a place among n (d where it is left out) -/
def sIx (n d : Nat) : Option Int → Nat
  | none => d
  | some v => if v < 0 then (v + (n : Int)).toNat else min v.toNat n
theorem sIx_none (n d : Nat) : sIx n d none = d := rfl
theorem sIx_nat (n d k : Nat) : sIx n d (some (k : Int)) = min k n := by
  show (if (k : Int) < 0 then ((k : Int) + (n : Int)).toNat else min (k : Int).toNat n) = min k n
  rw [if_neg (by omega), Int.toNat_natCast]
theorem sIx_le (n d : Nat) (hd : d ≤ n) (o : Option Int) : sIx n d o ≤ n := by
  cases o with
  | none => exact hd
  | some v =>
    show (if v < 0 then (v + (n : Int)).toNat else min v.toNat n) ≤ n
    by_cases hv : v < 0
    · rw [if_pos hv]; omega
    · rw [if_neg hv]; exact Nat.min_le_right _ _
end
end HT
namespace L2
open PySem PySem.Spec PyProof.Rows
abbrev TO := St → Hp → (Option Int → Hp → Prop) → Prop
/-- a slice's part (left out, or an int) -/
def PO (X : Cx) (e : Option Expr) (t : TO) : Prop :=
  ∀ (pins : List (Addr × Obj)) (s : Shared) (σ : St) (H : Hp) (Q : Option Int → Hp → Prop), Inv X pins σ H s → t σ H Q →
    wpAny (model X.prog X.w) X.A (evalPart e X.env) (fun u s' => ∃ o H', Inv X pins σ H' s' ∧ IsPart u o ∧ Q o H') X.xe s
def tNoPart : TO := fun _ H Q => Q none H
def tPart (t : TE) : TO := fun σ H Q => t σ H fun x H1 => ∃ i, x = .int i ∧ Q (some i) H1
section
variable {X : Cx} {e : Expr} {te : TE} {lo hi : Option Expr} {tl th : TO} {pos p2 : Pos}
theorem po_none : PO X none tNoPart := by
  intro pins s σ H Q I h
  rw [evalPart_none]
  exact wpAny_pure ⟨none, H, I, .none, h⟩
theorem po_some (h : PE X e te) : PO X (some e) (tPart te) := by
  intro pins s σ H Q I hw
  rw [evalPart_some]
  refine thn (h pins s σ H _ I hw) fun u s1 ⟨x, H1, I1, r1, q1⟩ => ?_
  obtain ⟨i, rfl, q⟩ := q1
  obtain ⟨t, rfl⟩ := r1
  exact ⟨some i, H1, I1, .int i t, q⟩
/-- what a slice of a value is, by values: the slice object stands at sl -/
def SlR (X : Cx) (r : V → Option Int → Option Int → Hp → VK → Prop) : Prop :=
  ∀ (pins : List (Addr × Obj)) (s : Shared) (σ : St) (H : Hp) (x : V) (v vl vu : Value) (lo hi : Option Int) (sl : Addr) (Q : VK), Inv X pins σ H s → RelV x v → s.heap.IsSliceOf sl vl vu .none → IsPart vl lo → IsPart vu hi → r x lo hi H Q →
    ∃ T id, typeLookup (.type T) "__getitem__" = pure (some (.builtin id)) ∧ s.TypeIs v T ∧ wpAny (model X.prog X.w) X.A (getItem v (.ref sl)) (EP X pins σ Q) X.xe s
def tSl (r : V → Option Int → Option Int → Hp → VK → Prop) (te : TE) (tl th : TO) : TE := fun σ H Q => te σ H fun x H1 => tl σ H1 fun l H2 => th σ H2 fun u H3 => r x l u H3 Q
/-- a[lo:hi], any a -/
theorem pe_slice {r : V → Option Int → Option Int → Hp → VK → Prop} (hr : SlR X r) (he : PE X e te) (hl : PO X lo tl) (hu : PO X hi th) : PE X (.Subscript e (.Slice lo hi none p2) pos) (tSl r te tl th) := by
  intro pins s σ H Q I h
  refine Subscript_ (thn (he pins s σ H _ I h) fun v s1 ⟨x, H1, I1, r1, q1⟩ => ?_)
  refine wpAny_Slice (thn (hl pins s1 σ H1 _ I1 q1) fun vl s2 ⟨l, H2, I2, pl, q2⟩ => thn (hu pins s2 σ H2 _ I2 q2) fun vu s3 ⟨u, H3, I3, pu, q3⟩ => ?_)
  rw [evalPart_none]
  refine wpAny_pure ?_
  have I4 : Inv X pins σ H3 { s3 with heap := s3.heap.push { cls := .type "slice", data := .fields #[vl, vu, .none] } } := I3.kept (t' := s3.toks) fun b ob q => Heap.get?_push_of_some _ q
  obtain ⟨T, id, hT, ht, hg⟩ := hr pins { s3 with heap := s3.heap.push { cls := .type "slice", data := .fields #[vl, vu, .none] } } σ H3 x v vl vu l u s3.heap.objs.size Q I4 r1 (Heap.IsSliceOf.new ..) pl pu q3
  show wpAny (model X.prog X.w) X.A (subscriptTail e (.Slice lo hi none p2) v (.ref s3.heap.objs.size)) (EP X pins σ Q) X.xe { s3 with heap := s3.heap.push { cls := .type "slice", data := .fields #[vl, vu, .none] } }
  exact tail_any (ops := [.ref s3.heap.objs.size, v]) ht hT hg (by with_unfolding_all rfl)
/-- the items of xs[lo:hi] -/
def cutV (xs : List V) (lo hi : Option Int) : List V := (xs.drop (HT.sIx xs.length 0 lo)).take (HT.sIx xs.length xs.length hi - HT.sIx xs.length 0 lo)
theorem cutV_length (xs : List V) (lo hi : Option Int) : (cutV xs lo hi).length ≤ xs.length := by
  unfold cutV
  rw [List.length_take, List.length_drop]
  omega
/-- t[lo:hi], not the whole of it (the whole would be t itself) -/
def rSlT (K : PySem.W.Frag) : V → Option Int → Option Int → Hp → VK → Prop := fun x lo hi H Q => ∃ a xs, x = .ref a ∧ SqT K H a xs ∧
  ¬ (HT.sIx xs.length 0 lo = 0 ∧ HT.sIx xs.length xs.length hi = xs.length) ∧ ∀ p, H p = none → Q (.ref p) (upd H p (.tup (cutV xs lo hi)))
def rLtT (K : PySem.W.Frag) : R2 := fun x y H Q => ∃ a b ns ms, x = .ref a ∧ y = .ref b ∧ SqT K H a (ns.map V.int) ∧ SqT K H b (ms.map V.int) ∧ Q (.bl (HT.lexLt ns ms)) H
/-- t + u, t not empty: u empty gives t itself -/
def rCatT (K : PySem.W.Frag) : R2 := fun x y H Q => ∃ a b xs ys, x = .ref a ∧ y = .ref b ∧ SqT K H a xs ∧ SqT K H b ys ∧ xs ≠ [] ∧ xs.length + ys.length ≤ sizeLine ∧
  (ys = [] → Q (.ref a) H) ∧ (ys ≠ [] → ∀ p, H p = none → Q (.ref p) (upd H p (.tup (xs ++ ys))))
end
end L2
namespace L2
open PySem PySem.Spec PyProof.Rows
/-- the place that an index of any sign means -/
def ixN (n : Nat) (i : Int) : Option Nat := if 0 ≤ i then (if i < n then some i.toNat else none) else if -(n : Int) ≤ i then some (i + n).toNat else none
def atI {α : Type} (xs : List α) (i : Int) : Option α := (ixN xs.length i).bind fun j => xs[j]?
theorem ixN_seq {n : Nat} {i : Int} {j : Nat} (h : ixN n i = some j) : seqIndex? i n = some j ∧ j < n ∧ -(n : Int) ≤ i ∧ i < n := by
  unfold ixN at h
  by_cases h0 : 0 ≤ i
  · rw [if_pos h0] at h
    by_cases h1 : i < n
    · rw [if_pos h1] at h
      have e : i.toNat = j := Option.some.inj h
      exact ⟨by rw [seqIndex_of h0 h1, e], by omega, by omega, h1⟩
    · rw [if_neg h1] at h; cases h
  · rw [if_neg h0] at h
    by_cases h1 : -(n : Int) ≤ i
    · rw [if_pos h1] at h
      have e : (i + n).toNat = j := Option.some.inj h
      exact ⟨by rw [seqIndex_neg (by omega) h1, e], by omega, h1, by omega⟩
    · rw [if_neg h1] at h; cases h
theorem atI_get {α : Type} {xs : List α} {i : Int} {v : α} (h : atI xs i = some v) : ∃ j, seqIndex? i xs.length = some j ∧ xs[j]? = some v ∧ j < xs.length ∧ -(xs.length : Int) ≤ i ∧ i < xs.length := by
  unfold atI at h
  cases e : ixN xs.length i with
  | none => rw [e] at h; cases h
  | some j =>
    rw [e] at h
    obtain ⟨h1, h2, h3, h4⟩ := ixN_seq e
    exact ⟨j, h1, h, h2, h3, h4⟩
theorem atI_nat {α : Type} {xs : List α} {j : Nat} {v : α} (h : xs[j]? = some v) : atI xs (j : Int) = some v := by
  have hj : j < xs.length := (List.getElem?_eq_some_iff.mp h).1
  have e : ixN xs.length (j : Int) = some j := by
    unfold ixN
    rw [if_pos (by omega), if_pos (by omega)]; simp
  unfold atI; rw [e]; exact h
/-- what stands as an index of a plain subscript -/
def PlainIx (b : Expr) : Prop := ∀ o i, subscripted b false o i = operate [o, i] (getItem o i)
/-- a subscript by values -/
def IxR (X : Cx) (r : R2) : Prop :=
  ∀ (value slice : Expr) (pins : List (Addr × Obj)) (s : Shared) (σ : St) (H : Hp) (x y : V) (v u : Value) (Q : VK), Inv X pins σ H s → RelV x v → RelV y u → r x y H Q →
    subscripted slice false v u = operate [v, u] (getItem v u) → wpAny (model X.prog X.w) X.A (subscriptTail value slice v u) (EP X pins σ Q) X.xe s
/-- a call of a builtin's method by values: the receiver, the arguments -/
def MtR (X : Cx) (id : String) (r : V → List V → Hp → VK → Prop) : Prop :=
  ∀ (pins : List (Addr × Obj)) (s : Shared) (σ : St) (H : Hp) (x : V) (xs : List V) (v : Value) (us : List Value) (Q : VK), Inv X pins σ H s → RelV x v → Vals xs us → r x xs H Q →
    wpAny (model X.prog X.w) X.A (call (.builtin id) (v :: us)) (EP X pins σ Q) X.xe s
section
variable {X : Cx} {a b : Expr} {ta tb : TE} {pos : Pos}
/-- a[b] -/
theorem pe_ix {r : R2} (hr : IxR X r) (ha : PE X a ta) (hb : PE X b tb) (hs : PlainIx b) : PE X (.Subscript a b pos) (tOp r ta tb) := by
  intro pins s σ H Q I h
  exact Subscript_ (binT ha hb I h fun v u s2 x y H2 I2 rx ry q => hr a b pins s2 σ H2 x y v u Q I2 rx ry q (hs _ _))
def rIxL (K : PySem.W.Frag) : R2 := fun x y H Q => ∃ p xs i v, x = .ref p ∧ y = .int i ∧ SqL K H p xs ∧ atI xs i = some v ∧ Q v H
def rIxT (K : PySem.W.Frag) : R2 := fun x y H Q => ∃ p xs i v, x = .ref p ∧ y = .int i ∧ SqT K H p xs ∧ atI xs i = some v ∧ Q v H
def rIxS : R2 := fun x y H Q => ∃ z i c, x = .str z ∧ y = .int i ∧ z.length ≤ sizeLine ∧ atI z.cps.toList i = some c ∧ Q (.str ⟨#[c]⟩) H
theorem ix_list : IxR X (rIxL X.K) := by
  intro value slice pins s σ H x y v u Q I rx ry h hs
  obtain ⟨p, xs, i, z, rfl, rfl, hq, he, q⟩ := h
  cases rx
  obtain ⟨t, rfl⟩ := ry
  obtain ⟨its, r, pl, hz⟩ := I.list hq
  obtain ⟨j, h1, h2, h3, h4, h5⟩ := atI_get he
  obtain ⟨w, ew, rw'⟩ := r.get h2
  have hl := r.length
  have hn := line63
  have fin : EP X pins σ Q w s := ⟨z, H, I, rw', q⟩
  by_cases h0 : 0 ≤ i
  · have hj : i.toNat = j := by
      rw [seqIndex_of h0 h5] at h1
      exact Option.some.inj h1
    exact item_listR pl.isList h0 (by omega) (by rw [hj]; simpa using ew) fin hs
  · have hj : (i + (its.toArray.size : Int)).toNat = j := by
      rw [seqIndex_neg (by omega) h4] at h1
      rw [List.size_toArray, ← hl]
      exact Option.some.inj h1
    exact subscriptTail_builtinR (x := w) pl.isList.typeIs slot_list_getitem.lookup
      (wpAny_getItem_list_neg (Q := fun r s' => r = w ∧ EP X pins σ Q r s') pl.isList (by omega) (by rw [List.size_toArray] <;> omega) (by omega) (by rw [hj]; simpa using ew) ⟨rfl, fin⟩) hs
theorem ix_tup : IxR X (rIxT X.K) := by
  intro value slice pins s σ H x y v u Q I rx ry h hs
  obtain ⟨p, xs, i, z, rfl, rfl, hq, he, q⟩ := h
  cases rx
  obtain ⟨t, rfl⟩ := ry
  obtain ⟨its, r, pl, hz⟩ := I.tuple hq
  obtain ⟨j, h1, h2, h3, h4, h5⟩ := atI_get he
  obtain ⟨w, ew, rw'⟩ := r.get h2
  have hl := r.length
  have hn := line63
  have fin : EP X pins σ Q w s := ⟨z, H, I, rw', q⟩
  exact subscriptTail_builtinR (x := w) pl.typeIs slot_tuple_getitem.lookup
    (getItem_tuple (j := j) (Q := fun r s' => r = w ∧ EP X pins σ Q r s') pl (by omega) (by omega) (by rw [List.size_toArray, ← hl]; exact h1) (by simpa using ew) ⟨rfl, fin⟩) hs
theorem ix_str : IxR X rIxS := by
  intro value slice pins s σ H x y v u Q I rx ry h hs
  obtain ⟨z, i, c, rfl, rfl, hz, he, q⟩ := h
  obtain ⟨t, rfl⟩ := rx
  obtain ⟨t', rfl⟩ := ry
  obtain ⟨j, h1, h2, h3, h4, h5⟩ := atI_get he
  have hl : z.cps.toList.length = z.length := by simp [Str.length]
  rw [hl] at h1 h4 h5
  have hn := line63
  exact tail_any (typeIs_str s z t) slot_str_getitem.lookup (getItem_str (c := c) (by
    have e1 : decide (i < -(2 ^ 63 : Int)) = false := decide_eq_false (by omega)
    have e2 : decide (i ≥ 2 ^ 63) = false := decide_eq_false (by omega)
    rw [e1, e2, Bool.or_false]) (by rw [h1]; simpa using h2) ⟨.str ⟨#[c]⟩, H, I.tok _, ⟨_, rfl⟩, q⟩) hs
/-- list, tuple or str -/
def rIx (K : PySem.W.Frag) : R2 := fun x y H Q => rIxL K x y H Q ∨ rIxT K x y H Q ∨ rIxS x y H Q
theorem Inv.lst {pins : List (Addr × Obj)} {σ : St} {H : Hp} {s : Shared} {p : Addr} {xs : List V} (I : Inv X pins σ H s) (h : H p = some (.lst xs)) :
    ∃ (its : List Value) (n : Nat), Vals xs its ∧ s.heap.get? p = some { cls := .type "list", data := .seq its.toArray n } ∧ xs.length ≤ sizeLine := by
  obtain ⟨z, its, n, r, e⟩ := I.hok p _ h
  exact ⟨its, n, r, e, z⟩
def rSetL : V → V → V → Hp → (Hp → Prop) → Prop := fun o i v H Q => ∃ p xs k j, o = .ref p ∧ i = .int k ∧ H p = some (.lst xs) ∧ ixN xs.length k = some j ∧ Q (upd H p (.lst (xs.set j v)))
theorem slice_bounds (lo hi : Option Int) (n : Nat) : (sliceBounds lo hi none n).1 = ((HT.sIx n 0 lo : Nat) : Int) ∧ (sliceBounds lo hi none n).2.1 = ((HT.sIx n n hi : Nat) : Int) ∧ (sliceBounds lo hi none n).2.2 = 1 := by
  refine ⟨?_, ?_, rfl⟩
  · cases lo with
    | none => simp [sliceBounds, HT.sIx]
    | some i =>
      simp only [sliceBounds, HT.sIx, Option.getD_none, show (1 : Int) > 0 by decide, if_true]
      by_cases h : i < 0
      · simp only [h, if_true] <;> omega
      · simp only [h, if_false] <;> omega
  · cases hi with
    | none => simp [sliceBounds, HT.sIx]
    | some i =>
      simp only [sliceBounds, HT.sIx, Option.getD_none, show (1 : Int) > 0 by decide, if_true]
      by_cases h : i < 0
      · simp only [h, if_true] <;> omega
      · simp only [h, if_false] <;> omega
theorem slicePick_cut (its : List Value) (lo hi : Option Int) : slicePick its.toArray lo hi none = ((its.drop (HT.sIx its.length 0 lo)).take (HT.sIx its.length its.length hi - HT.sIx its.length 0 lo)).toArray := by
  obtain ⟨h1, h2, h3⟩ := slice_bounds lo hi its.toArray.size
  unfold slicePick
  rw [h1, h2, h3]
  simp only [sliceRange_one, pick_run, List.size_toArray] <;> rfl
/-- xs[lo:hi] of a list: a new list -/
def rSlL (K : PySem.W.Frag) : V → Option Int → Option Int → Hp → VK → Prop := fun x lo hi H Q => ∃ a xs, x = .ref a ∧ SqL K H a xs ∧ ∀ p, H p = none → Q (.ref p) (upd H p (.lst (cutV xs lo hi)))
theorem sl_list : SlR X (rSlL X.K) := by
  intro pins s σ H x v vl vu lo hi sl Q I rx hs pl pu h
  obtain ⟨a, xs, rfl, hx, q⟩ := h
  cases rx
  obtain ⟨its, r, ht, hz⟩ := I.list hx
  have hlen := r.length
  refine ⟨"list", _, slot_list_getitem.lookup, ht.isList.typeIs, ?_⟩
  refine wpAny_getItem_list_slice ht.isList hs pl pu .none (by simp) ?_ (by rw [List.size_toArray] <;> omega)
  rw [slicePick_cut, ← hlen]
  refine ⟨.ref s.heap.objs.size, _, I.laid (t' := s.toks) (o := .lst (cutV xs lo hi)) (fun b ob q => Heap.get?_push_of_some _ q) (Nat.le_refl _) ?_, rfl, q _ (I.hok.fresh (Nat.le_refl _))⟩
  exact ⟨Nat.le_trans (cutV_length xs lo hi) hz, _, 0, (r.drop (HT.sIx xs.length 0 lo)).take (HT.sIx xs.length xs.length hi - HT.sIx xs.length 0 lo), Heap.get?_push_size _ rfl⟩
def flatV : V → Bool
  | .non => true
  | .bl _ => true
  | .int _ => true
  | .str _ => true
  | _ => false
/-- == of flat values -/
def eqV : V → V → Bool
  | .non, .non => true
  | .bl a, .bl b => a == b
  | .bl a, .int b => (if a then 1 else 0) == b
  | .int a, .bl b => a == (if b then 1 else 0)
  | .int a, .int b => a == b
  | .str a, .str b => a == b
  | _, _ => false
/-- the items' answers, read off the values (a value's own answer does not lean on its token) -/
def eqU (x : V) (u : Value) : Bool := match u with
  | .none => eqV .non x
  | .bool b => eqV (.bl b) x
  | .int i _ => eqV (.int i) x
  | .str z _ => eqV (.str z) x
  | _ => false
def inV (x : V) (xs : List V) : Bool := xs.any fun y => eqV y x
/-- x in a list or tuple of flat items -/
def rIn (K : PySem.W.Frag) (neg : Bool) : R2 := fun x y H Q => ∃ p xs, y = .ref p ∧ (SqL K H p xs ∨ SqT K H p xs) ∧ flatV x = true ∧ xs.all flatV = true ∧ Q (.bl (if neg then !inV x xs else inV x xs)) H
theorem call_len_seq : CallR X (.builtin "len") (fun xs H Q => ∃ p ys, xs = [.ref p] ∧ (SqL X.K H p ys ∨ SqT X.K H p ys) ∧ Q (.int ys.length) H) := by
  intro pins s σ H xs us Q I r h
  obtain ⟨p, ys, rfl, hq, q⟩ := h
  obtain ⟨u, rfl, rx⟩ := vals1 r
  cases rx
  have hn := line63
  rcases hq with hq | hq
  · obtain ⟨its, r', pl, hz⟩ := I.list hq
    have hlen := r'.length
    exact Calls.call_len_list pl.isList (by simp only [List.size_toArray] <;> omega) ⟨.int ys.length, H, I.tok _, ⟨s.toks + 1, by rw [List.size_toArray, hlen]⟩, q⟩
  · obtain ⟨its, r', pl, hz⟩ := I.tuple hq
    have hlen := r'.length
    exact len_tuple pl (by simp only [List.size_toArray] <;> omega) ⟨.int ys.length, H, I.tok _, ⟨s.toks + 1, by rw [List.size_toArray, hlen]⟩, q⟩
theorem call_len_str : CallR X (.builtin "len") (fun xs H Q => ∃ z, xs = [.str z] ∧ z.length ≤ sizeLine ∧ Q (.int z.length) H) := by
  intro pins s σ H xs us Q I r h
  obtain ⟨z, rfl, hz, q⟩ := h
  obtain ⟨u, rfl, t, rfl⟩ := vals1 r
  have hn := line63
  exact len_str (by omega) ⟨.int z.length, H, I.tok _, ⟨_, rfl⟩, q⟩
/-- the value is of that builtin type -/
def tyV (K : PySem.W.Frag) (T : String) (x : V) (H : Hp) : Prop := match x with
  | .str _ => T = "str"
  | .int _ => T = "int"
  | .ref p => (T = "list" ∧ ∃ xs, SqL K H p xs) ∨ (T = "tuple" ∧ ∃ o, K.lookup p = some o ∧ o.cls = .type "tuple" ∧ o.dict = none) ∨
      (T = "dict" ∧ ((∃ kvs, H p = some (.dK kvs)) ∨ ∃ kvs, H p = some (.dT kvs))) ∨ (T = "set" ∧ ∃ S n, H p = some (.set S n))
  | _ => False
theorem tyV_is {pins : List (Addr × Obj)} {σ : St} {H : Hp} {s : Shared} {T : String} {x : V} {v : Value} (I : Inv X pins σ H s) (r : RelV x v) (ty : tyV X.K T x H) :
    s.TypeIs v T ∧ ∀ a, v = .ref a → ∃ ob, s.heap.get? a = some ob ∧ ob.dict = none := by
  cases x with
  | str z =>
    obtain ⟨t, rfl⟩ := r
    cases (show T = "str" from ty)
    exact ⟨typeIs_str s z t, fun _ e => nomatch e⟩
  | int i =>
    obtain ⟨t, rfl⟩ := r
    cases (show T = "int" from ty)
    exact ⟨typeIs_int s i t, fun _ e => nomatch e⟩
  | ref p =>
    cases r
    rcases ty with ⟨rfl, xs, hq⟩ | ⟨rfl, o, hk, hc, hd⟩ | ⟨rfl, hk⟩ | ⟨rfl, S, n, hk⟩
    · obtain ⟨its, _, pl, _⟩ := I.list hq
      refine ⟨pl.isList.typeIs, fun a e => ?_⟩
      cases e
      obtain ⟨o, n, e, c, hd, _⟩ := pl
      exact ⟨o, e, hd⟩
    · refine ⟨⟨o, I.kIn p o hk, hc⟩, fun a e => ?_⟩
      cases e
      exact ⟨o, I.kIn _ o hk, hd⟩
    · have z : ∃ o, s.heap.get? p = some o ∧ o.ExactDict := by
        rcases hk with ⟨kvs, hk⟩ | ⟨kvs, hk⟩
        · obtain ⟨_, _, _, _, o, _, _, e, ex, _⟩ := I.hok p _ hk
          exact ⟨o, e, ex⟩
        · obtain ⟨_, _, _, _, o, _, _, e, ex, _⟩ := I.hok p _ hk
          exact ⟨o, e, ex⟩
      obtain ⟨o, e, ex⟩ := z
      refine ⟨⟨o, e, ex.1⟩, fun a e2 => ?_⟩
      cases e2
      exact ⟨o, e, ex.2.1⟩
    · obtain ⟨o, _, _, _, e, ex, _⟩ := I.hok p _ hk
      refine ⟨⟨o, e, ex.1⟩, fun a e2 => ?_⟩
      cases e2
      exact ⟨o, e, ex.2.1⟩
  | _ => exact False.elim ty
def tBM0 (K : PySem.W.Frag) (T : String) (r : V → List V → Hp → VK → Prop) (to : TE) : TE := fun σ H Q => to σ H fun x H1 => tyV K T x H1 ∧ r x [] H1 Q
def tBM (K : PySem.W.Frag) (T : String) (r : V → List V → Hp → VK → Prop) (to : TE) (t : TA) : TE := fun σ H Q => to σ H fun x H1 => tyV K T x H1 ∧ t σ H1 fun xs H2 => r x xs H2 Q
variable {o e : Expr} {es : List Expr} {to : TE} {t : TA} {name : Str} {apos cpos : Pos} {T id : String} {r : V → List V → Hp → VK → Prop}
theorem pe_bm0 (pa : PlainAttrs T) (slot : Slot T name id) (hty : typeOf (.builtin id) = pure (.type "method_descriptor")) (hm : MtR X id r) (ho : PE X o to)
    (hbase : attributeBase o name X.env (eval o X.env) = eval o X.env := by rfl) (hline : (apos.endLine == cpos.line) = true := by rfl) : PE X (.Call (.Attribute o name apos) [] [] cpos) (tBM0 X.K T r to) := by
  intro pins s σ H Q I h
  refine wpAny_Call_method0_late hbase hline (thn (ho pins s σ H _ I h) fun v s1 ⟨x, H1, I1, r1, ty, q1⟩ => ?_)
  obtain ⟨h1, h2⟩ := tyV_is I1 r1 ty
  exact ⟨T, id, pa, slot, hty, h1, h2, Calls.callWith_builtin rfl (PySem.evalArgs_none (hm pins s1 σ H1 x [] v [] Q I1 r1 .nil q1))⟩
theorem pe_bm (pa : PlainAttrs T) (slot : Slot T name id) (hty : typeOf (.builtin id) = pure (.type "method_descriptor")) (hm : MtR X id r) (ho : PE X o to) (ha : PA X (e :: es) t)
    (hbase : attributeBase o name X.env (eval o X.env) = eval o X.env := by rfl)
    (hfew : ((backTo cpos (starEach (e :: es) X.env)).all (fun x => !x.1) && (backToKw cpos (keywordEach [] X.env)).all (fun x => x.1.isSome)
      && decide ((e :: es).length + ([] : List Keyword).length + (if ([] : List Keyword).isEmpty then 0 else 1) < 30)) = true := by rfl)
    (hline : (apos.endLine == cpos.line) = true := by rfl) (hs : starEach (e :: es) X.env = (false, eval e X.env) :: starEach es X.env := by rfl) (hplain : (backTo cpos (starEach es X.env)).any (·.1) = false := by rfl) :
    PE X (.Call (.Attribute o name apos) (e :: es) [] cpos) (tBM X.K T r to t) := by
  intro pins s σ H Q I h
  refine wpAny_Call_method_late hbase hfew hline rfl (thn (ho pins s σ H _ I h) fun v s1 ⟨x, H1, I1, r1, ty, q1⟩ => ?_)
  obtain ⟨h1, h2⟩ := tyV_is I1 r1 ty
  refine ⟨T, id, pa, slot, hty, h1, h2, ?_⟩
  have hA := ha cpos pins s1 σ H1 _ I1 q1
  rw [hs] at hA ⊢
  refine Calls.callWith_builtin (by show (false || (backTo cpos (starEach es X.env)).any (·.1)) = false; rw [hplain] <;> rfl) (Calls.evalArgs_plain ?_)
  exact thn hA fun us s2 ⟨vs, H2, I2, r2, q2⟩ => hm pins s2 σ H2 x vs v us Q I2 r1 r2 q2
/- xs.append(e), list.index on a module's tuple .. are MtR facts of 06m -/
end
end L2
namespace L2
open PySem PySem.Spec PyProof.Rows
def MtM (X : Cx) (id : String) (r : V → List V → Hp → VK → Prop) : Prop :=
  ∀ (pins : List (Addr × Obj)) (s : Shared) (σ : St) (H : Hp) (x : V) (xs : List V) (v : Value) (us : List Value) (Q : VK), Inv X pins σ H s → RelV x v → Vals xs us → r x xs H Q →
    wpAny (model X.prog X.w) X.A (call (.builtin id) (v :: us)) (EP X pins σ Q) X.xe s
theorem Vals.one : ∀ {x : V} {us : List Value}, Vals [x] us → ∃ u, us = [u] ∧ RelV x u
  | _, _, .cons r .nil => ⟨_, rfl, r⟩
theorem Vals.zero : ∀ {us : List Value}, Vals [] us → us = []
  | _, .nil => rfl
theorem Vals.dropLast {xs : List V} {us : List Value} (h : Vals xs us) : Vals xs.dropLast us.dropLast := by
  induction h with
  | nil => exact .nil
  | cons r t ih =>
    cases t with
    | nil => exact .nil
    | cons q t' => exact .cons r ih
theorem Vals.eraseIdx : ∀ {xs : List V} {us : List Value} (i : Nat), Vals xs us → Vals (xs.eraseIdx i) (us.eraseIdx i)
  | _, _, _, .nil => .nil
  | _, _, 0, .cons _ t => t
  | _, _, i + 1, .cons r t => .cons r (Vals.eraseIdx i t)
theorem Vals.reverse {xs : List V} {us : List Value} (h : Vals xs us) : Vals xs.reverse us.reverse := by
  induction h with
  | nil => exact .nil
  | cons r t ih => rw [List.reverse_cons, List.reverse_cons]; exact Vals.append ih (.cons r .nil)
theorem len_erase {α : Type} : ∀ (l : List α) (i : Nat), (l.eraseIdx i).length ≤ l.length
  | [], _ => Nat.le_refl _
  | _ :: _, 0 => Nat.le_succ _
  | _ :: r, i + 1 => Nat.succ_le_succ (len_erase r i)
section
variable {X : Cx} {pins : List (Addr × Obj)} {σ : St} {H : Hp} {s : Shared} {l b : Addr} {xs ys zs : List V}
theorem Inv.lset {its its' : List Value} {n : Nat} {f : Array Value → Array Value} {t' : Nat} (I : Inv X pins σ H s) (hH : H l = some (.lst xs))
    (e : s.heap.get? l = some { cls := .type "list", data := .seq its.toArray n }) (hf : f its.toArray = its'.toArray) (hv : Vals ys its') (hz : ys.length ≤ sizeLine) :
    Inv X pins σ (upd H l (.lst ys)) { s with heap := s.heap.update l (Obj.mapSeq f), toks := t' } := by
  have q := PySem.IsL.update e f
  rw [hf] at q
  refine I.write (x := l) (e := l) (by rw [hH]; exact trivial) (.inl rfl) (fun b' u hb hu => (Heap.get?_update_other s.heap (Obj.mapSeq f) (Ne.symm hb)).trans hu) ⟨_, q⟩ ?_
  exact ⟨hz, its', _, hv, q⟩
theorem Inv.fresh (I : Inv X pins σ H s) : H s.heap.objs.size = none := I.hok.fresh (Nat.le_refl _)
theorem Inv.lstM (I : Inv X pins σ H s) (hH : H l = some (.lst xs)) : xs.length ≤ sizeLine ∧ ∃ (its : List Value) (n : Nat), Vals xs its ∧ xs.length = its.length ∧ s.heap.get? l = some { cls := .type "list", data := .seq its.toArray n } := by
  obtain ⟨z, its, n, r, e⟩ := I.hok l _ hH
  exact ⟨z, its, n, r, r.length, e⟩
end
section
variable {X : Cx}
def rAppend : V → List V → Hp → VK → Prop := fun x vs H Q => ∃ l xs y, x = .ref l ∧ vs = [y] ∧ H l = some (.lst xs) ∧ xs.length < sizeLine ∧ Q .non (upd H l (.lst (xs ++ [y])))
theorem mt_append : MtM X "list.append" rAppend := by
  intro pins s σ H x vs v us Q I rx rv h
  obtain ⟨l, xs, y, rfl, rfl, hH, hz, q⟩ := h
  cases rx
  obtain ⟨u, rfl, ru⟩ := rv.one
  obtain ⟨z, its, n, r, hl, e⟩ := I.lstM hH
  refine call_meets F.slot_list_append ⟨_, e, rfl⟩ F.entry_list_append (F.args_list_append_2 _ _) (PySem.list_append l its.toArray n u (by rw [List.size_toArray]; omega)) ⟨e, ?_⟩
  refine ⟨.non, _, I.lset (its' := its ++ [u]) hH e (by simp) (r.append (.cons ru .nil)) ?_, rfl, q⟩
  rw [List.length_append, List.length_singleton]
  omega
def rExtend : V → List V → Hp → VK → Prop := fun x vs H Q => ∃ l b xs zs, x = .ref l ∧ vs = [.ref b] ∧ H l = some (.lst xs) ∧ H b = some (.lst zs) ∧ xs.length + zs.length ≤ sizeLine ∧ Q .non (upd H l (.lst (xs ++ zs)))
def rPop : V → List V → Hp → VK → Prop := fun x vs H Q => ∃ l xs y, x = .ref l ∧ vs = [] ∧ H l = some (.lst xs) ∧ xs[xs.length - 1]? = some y ∧ Q y (upd H l (.lst xs.dropLast))
def rPopAt : V → List V → Hp → VK → Prop := fun x vs H Q => ∃ l xs i k y, x = .ref l ∧ vs = [.int i] ∧ H l = some (.lst xs) ∧ -(2 ^ 63) ≤ i ∧ i < 2 ^ 63 ∧ seqIndex? i xs.length = some k ∧ xs[k]? = some y ∧ Q y (upd H l (.lst (xs.eraseIdx k)))
theorem mt_popAt : MtM X "list.pop" rPopAt := by
  intro pins s σ H x vs v us Q I rx rv h
  obtain ⟨l, xs, i, k, y, rfl, rfl, hH, h1, h2, hk, hy, q⟩ := h
  cases rx
  obtain ⟨u, rfl, ru⟩ := rv.one
  obtain ⟨t, rfl⟩ := ru
  obtain ⟨z, its, n, r, hl, e⟩ := I.lstM hH
  obtain ⟨w, hw, rw'⟩ := r.get hy
  refine call_meets F.slot_list_pop ⟨_, e, rfl⟩ F.entry_list_pop (F.args_list_pop_2 _ _)
    (MeetsSeq.list_pop_at l its.toArray n i t k w (fitsIndex_both h1 h2) (by rw [List.size_toArray, ← hl]; exact hk) (by rw [← Array.getElem?_toList]; exact hw) (by rw [List.size_toArray]; omega)) ⟨e, ?_⟩
  refine ⟨y, _, I.lset (its' := its.eraseIdx k) hH e ?_ (r.eraseIdx k) ?_, rw', q⟩
  · show its.toArray.eraseIdxIfInBounds k = (its.eraseIdx k).toArray
    rw [List.eraseIdxIfInBounds_toArray]
  · have := len_erase xs k
    omega
def rReverse : V → List V → Hp → VK → Prop := fun x vs H Q => ∃ l xs, x = .ref l ∧ vs = [] ∧ H l = some (.lst xs) ∧ Q .non (upd H l (.lst xs.reverse))
theorem mt_reverse : MtM X "list.reverse" rReverse := by
  intro pins s σ H x vs v us Q I rx rv h
  obtain ⟨l, xs, rfl, rfl, hH, q⟩ := h
  cases rx
  have hus := rv.zero
  subst hus
  obtain ⟨z, its, n, r, hl, e⟩ := I.lstM hH
  refine call_meets F.slot_list_reverse ⟨_, e, rfl⟩ F.entry_list_reverse (F.args_list_reverse_1 _) (AutoSeq1.list_reverse_list_0 l its.toArray n (by rw [List.size_toArray]; omega)) ⟨e, ?_⟩
  refine ⟨.non, _, I.lset (its' := its.reverse) hH e (by simp) r.reverse ?_, rfl, q⟩
  rw [List.length_reverse]
  omega
def rClear : V → List V → Hp → VK → Prop := fun x vs H Q => ∃ l xs, x = .ref l ∧ vs = [] ∧ H l = some (.lst xs) ∧ Q .non (upd H l (.lst []))
def rCat : R2 := fun x y H Q => ∃ l b xs zs, x = .ref l ∧ y = .ref b ∧ H l = some (.lst xs) ∧ H b = some (.lst zs) ∧ xs.length + zs.length ≤ sizeLine ∧ ∀ p, H p = none → Q (.ref p) (upd H p (.lst (xs ++ zs)))
/-- a list times an int (a negative one is nothing) -/
def rRep : R2 := fun x y H Q => ∃ l k xs, x = .ref l ∧ y = .int k ∧ H l = some (.lst xs) ∧ -(2 ^ 63) ≤ k ∧ k < 2 ^ 63 ∧ xs.length * k.toNat ≤ sizeLine ∧
  ∀ p, H p = none → Q (.ref p) (upd H p (.lst (List.replicate k.toNat xs).flatten))
end
section
variable {prog : Program} {w : World} {A : Around} {E : Value → Shared → Prop} {s : Shared}
end
section
variable {X : Cx}
end
end L2
namespace L2
open PySem PySem.Spec PyProof.Rows
theorem Vals.ints : ∀ {ns : List Int} {us : List Value}, Vals (ns.map V.int) us → IntsAre us ns
  | [], us, h => by
    rw [List.map_nil] at h
    cases h
    exact IntsAre.nil
  | n :: ns, us, h => by
    rw [List.map_cons] at h
    cases h with
    | cons r t =>
      obtain ⟨k, rfl⟩ := r
      exact IntsAre.cons n k (Vals.ints t)
theorem Vals.strs : ∀ {xs : List Str} {us : List Value}, Vals (xs.map V.str) us → StrsAre us xs
  | [], us, h => by
    rw [List.map_nil] at h
    cases h
    exact StrsAre.nil
  | x :: xs, us, h => by
    rw [List.map_cons] at h
    cases h with
    | cons r t =>
      obtain ⟨k, rfl⟩ := r
      exact StrsAre.cons x k (Vals.strs t)
theorem vals_of_strs : ∀ {us : List Value} {xs : List Str}, StrsAre us xs → Vals (xs.map V.str) us
  | _, _, .nil => by rw [List.map_nil]; exact Paired.nil
  | _, _, .cons x t h => by rw [List.map_cons]; exact Paired.cons (show RelV (V.str x) (Value.str x t) from ⟨t, rfl⟩) (vals_of_strs h)
theorem Vals.ref1 {a : Addr} {us : List Value} (r : Vals [V.ref a] us) : us = [Value.ref a] := by
  cases r with
  | cons r t =>
    cases t
    cases r
    rfl
section
variable {prog : Program} {w : World} {A : Around} {E : Value → Shared → Prop} {s : Shared} {l : Addr} {its : List Value} {ns : List Int} {Q : Value → Shared → Prop}
end
section
variable {X : Cx}
/-- sum(xs) of a list of ints -/
def rSum (K : PySem.W.Frag) : List V → Hp → VK → Prop := fun vs H Q => ∃ (a : Addr) (ns : List Int), vs = [V.ref a] ∧ SqL K H a (ns.map V.int) ∧ Q (.int ns.sum) H
/-- max(xs), min(xs) of a list of ints -/
def rMax (K : PySem.W.Frag) : List V → Hp → VK → Prop := fun vs H Q => ∃ (a : Addr) (ns : List Int), vs = [V.ref a] ∧ SqL K H a (ns.map V.int) ∧ 0 < ns.length ∧ ∀ m, m ∈ ns → (∀ y, y ∈ ns → y ≤ m) → Q (.int m) H
def rMin (K : PySem.W.Frag) : List V → Hp → VK → Prop := fun vs H Q => ∃ (a : Addr) (ns : List Int), vs = [V.ref a] ∧ SqL K H a (ns.map V.int) ∧ 0 < ns.length ∧ ∀ m, m ∈ ns → (∀ y, y ∈ ns → m ≤ y) → Q (.int m) H
def rSorted (K : PySem.W.Frag) : List V → Hp → VK → Prop := fun vs H Q => ∃ (a : Addr) (ns : List Int), vs = [V.ref a] ∧ SqL K H a (ns.map V.int) ∧ ns.length < 64 ∧
  ∀ (ns' : List Int) (p : Addr), ns'.Perm ns → ns'.Pairwise (· ≤ ·) → H p = none → Q (.ref p) (upd H p (.lst (ns'.map V.int)))
def rSortedS (K : PySem.W.Frag) : List V → Hp → VK → Prop := fun vs H Q => ∃ (a : Addr) (xs : List Str), vs = [V.ref a] ∧ SqL K H a (xs.map V.str) ∧ xs.length < 64 ∧
  ∀ (ys : List Str) (p : Addr), ys.Perm xs → sortedS ys = true → H p = none → Q (.ref p) (upd H p (.lst (ys.map V.str)))
theorem small64 {n : Nat} (h : n < 64) : n ≤ sizeLine := by rw [sizeLine_eq]; omega
/-- xs.sort(), ints -/
def rSort : V → List V → Hp → VK → Prop := fun x xs H Q => ∃ (a : Addr) (ns : List Int), x = V.ref a ∧ xs = [] ∧ H a = some (.lst (ns.map V.int)) ∧ ns.length < 64 ∧
  ∀ ns' : List Int, ns'.Perm ns → ns'.Pairwise (· ≤ ·) → Q .non (upd H a (.lst (ns'.map V.int)))
end
section
variable {X : Cx}
def rIndex (K : PySem.W.Frag) : V → List V → Hp → VK → Prop := fun x xs H Q => ∃ (a : Addr) (ys : List V) (y : V) (j : Nat) (z : V), x = V.ref a ∧ xs = [y] ∧ SqL K H a ys ∧ flatV y = true ∧ ys.all flatV = true ∧ ys[j]? = some z ∧ eqV z y = true ∧
  (∀ (m : Nat) (z' : V), m < j → ys[m]? = some z' → eqV z' y = false) ∧ Q (.int (j : Nat)) H
end
section
variable {X : Cx}
end
section
variable {X : Cx}
def rAny (K : PySem.W.Frag) : List V → Hp → VK → Prop := fun vs H Q => ∃ (a : Addr) (bs : List Bool), vs = [V.ref a] ∧ SqL K H a (bs.map V.bl) ∧ Q (.bl (bs.any id)) H
def rAll (K : PySem.W.Frag) : List V → Hp → VK → Prop := fun vs H Q => ∃ (a : Addr) (bs : List Bool), vs = [V.ref a] ∧ SqL K H a (bs.map V.bl) ∧ Q (.bl (bs.all id)) H
end
mutual
inductive Dp (K : PySem.W.Frag) (H : Hp) : V → PyData → Prop
  | non : Dp K H .non .none
  | bl (b : Bool) : Dp K H (.bl b) (.bool b)
  | int (i : Int) : Dp K H (.int i) (.int i)
  | str (x : Str) : Dp K H (.str x) (.str x)
  | lst {a : Addr} {xs : List V} {ds : List PyData} : SqL K H a xs → DpAll K H xs ds → Dp K H (.ref a) (.list ds)
  | tup {a : Addr} {xs : List V} {ds : List PyData} : SqT K H a xs → DpAll K H xs ds → Dp K H (.ref a) (.tuple ds)
inductive DpAll (K : PySem.W.Frag) (H : Hp) : List V → List PyData → Prop
  | nil : DpAll K H [] []
  | cons {v : V} {vs : List V} {d : PyData} {ds : List PyData} : Dp K H v d → DpAll K H vs ds → DpAll K H (v :: vs) (d :: ds)
end
section
variable {X : Cx} {pins : List (Addr × Obj)} {σ : St} {H : Hp} {s : Shared}
mutual
theorem Dp.reads (I : Inv X pins σ H s) : ∀ (d : PyData) (v : V) (u : Value), Dp X.K H v d → RelV v u → ∃ as, Reads s.heap u d as
  | .none, _, _, h, r => by
    cases h
    cases r
    exact ⟨_, Reads.none⟩
  | .bool b, _, _, h, r => by
    cases h
    cases r
    exact ⟨_, Reads.bool b⟩
  | .int i, _, _, h, r => by
    cases h
    obtain ⟨t, rfl⟩ := r
    exact ⟨_, Reads.int i t⟩
  | .str x, _, _, h, r => by
    cases h
    obtain ⟨t, rfl⟩ := r
    exact ⟨_, Reads.str x t⟩
  | .list ds, _, _, h, r => by
    cases h with
    | lst hs ha =>
      cases r
      obtain ⟨its, rv, ⟨o, n, ho, hc, _, hd⟩, _⟩ := I.list hs
      obtain ⟨as, hr⟩ := Dp.readsAll I ds _ its ha rv
      exact ⟨_, Reads.list ho hc hd hr⟩
  | .tuple ds, _, _, h, r => by
    cases h with
    | tup hs ha =>
      cases r
      obtain ⟨its, rv, ⟨o, ho, hc, n, hd⟩, _⟩ := I.tuple hs
      obtain ⟨as, hr⟩ := Dp.readsAll I ds _ its ha rv
      exact ⟨_, Reads.tuple ho hc hd hr⟩
  | .dict _, _, _, h, _ => by cases h
theorem Dp.readsAll (I : Inv X pins σ H s) : ∀ (ds : List PyData) (vs : List V) (us : List Value), DpAll X.K H vs ds → Vals vs us → ∃ as, ReadsAll s.heap us ds as
  | [], _, _, h, r => by
    cases h
    cases r
    exact ⟨_, ReadsAll.nil⟩
  | d :: ds, _, _, h, r => by
    cases h with
    | cons h1 h2 =>
      cases r with
      | cons r1 r2 =>
        obtain ⟨as, q1⟩ := Dp.reads I d _ _ h1 r1
        obtain ⟨bs, q2⟩ := Dp.readsAll I ds _ _ h2 r2
        exact ⟨_, ReadsAll.cons q1 q2⟩
end
end
section
variable {X : Cx}
def rEqD (K : PySem.W.Frag) : R2 := fun x y H Q => ∃ d e, Dp K H x d ∧ Dp K H y e ∧ SeqAt.shaped d = true ∧ SeqAt.shaped e = true ∧ Q (.bl (PyData.eqv d e)) H
def rNeD (K : PySem.W.Frag) : R2 := fun x y H Q => ∃ d e, Dp K H x d ∧ Dp K H y e ∧ SeqAt.shaped d = true ∧ SeqAt.shaped e = true ∧ Q (.bl (!PyData.eqv d e)) H
theorem op_eqD (hu : X.A.units + 64 < cLine) : OpR X (compareOp .Eq) (rEqD X.K) := by
  intro pins s σ H x y v u Q I rx ry h
  obtain ⟨d, e, hd, he, sd, se, q⟩ := h
  obtain ⟨as, r1⟩ := Dp.reads I d x v hd rx
  obtain ⟨bs, r2⟩ := Dp.reads I e y u he ry
  exact SeqAt.compareEq_shaped r1 r2 sd se hu ⟨.bl _, H, I, rfl, q⟩
theorem op_neD (hu : X.A.units + 64 < cLine) : OpR X (compareOp .NotEq) (rNeD X.K) := by
  intro pins s σ H x y v u Q I rx ry h
  obtain ⟨d, e, hd, he, sd, se, q⟩ := h
  obtain ⟨as, r1⟩ := Dp.reads I d x v hd rx
  obtain ⟨bs, r2⟩ := Dp.reads I e y u he ry
  exact SeqAt.compareNe_shaped r1 r2 sd se hu ⟨.bl _, H, I, rfl, q⟩
end
end L2
namespace L2
open PySem PySem.Spec PyProof.Rows
abbrev CellAt (h : Heap) (c : Addr) (v : Option Value) : Prop := h.IsCell c v
def relS (scope sc : Scope) : Scope :=
  { scope with names := scope.names.map fun (n, k) => if (k == .free && sc.kind == .function && sc.names.lookup n == some .cell) then (n, .cell) else (n, k) }
def cloFrom (cells : List (Str × Addr)) : List (Str × NameKind) → List (Str × Addr) → List (Str × Addr)
  | [], acc => acc
  | (n, k) :: r, acc => if k == .free then cloFrom cells r ((n, (cells.lookup n).getD 0) :: acc) else cloFrom cells r acc
theorem closure_loop (env : Env) (f : Str × NameKind → List (Str × Addr) → Sem (ForInStep (List (Str × Addr))))
    (hf : ∀ n k c, f (n, k) c = if k == .free then (do let a ← cellOf env n; pure (.yield ((n, a) :: c))) else pure (.yield c)) :
    ∀ (names : List (Str × NameKind)) (acc : List (Str × Addr)), (∀ y ∈ names, y.2 = .free → ∃ c, env.cells.lookup y.1 = some c) → forIn names acc f = pure (cloFrom env.cells names acc)
  | [], acc, _ => by rw [List.forIn_nil]; rfl
  | (n, k) :: r, acc, h => by
    rw [List.forIn_cons, hf]
    have ih := fun acc => closure_loop env f hf r acc fun y hy => h y (List.mem_cons_of_mem _ hy)
    unfold cloFrom
    by_cases hk : (k == NameKind.free) = true
    · rw [if_pos hk, if_pos hk]
      obtain ⟨c, hc⟩ := h (n, k) List.mem_cons_self (by simpa using hk)
      have e : cellOf env n = pure c := by unfold cellOf; rw [hc]
      rw [e]
      have e2 : (env.cells.lookup n).getD 0 = c := by rw [hc]; rfl
      rw [e2]
      exact ih _
    · rw [if_neg hk, if_neg hk]
      exact ih _
theorem closure_ok {scope : Scope} {env : Env} (h : ∀ y ∈ scope.names, y.2 = .free → ∃ c, env.cells.lookup y.1 = some c) : closureFor scope env = pure (cloFrom env.cells scope.names []) := by
  simp only [closureFor]
  rw [closure_loop env _ (fun n k c => rfl) scope.names [] h]
  rfl
theorem mem_lookup {α : Type} : ∀ {l : List (Str × α)} {n : Str} {c : α}, (n, c) ∈ l → ∃ c', l.lookup n = some c'
  | (k, v) :: r, n, c, h => by
    rw [List.lookup_cons]
    cases hb : n == k with
    | true => exact ⟨_, rfl⟩
    | false =>
      rcases List.mem_cons.mp h with e | h
      · cases e; simp at hb
      · exact mem_lookup h
theorem cloFrom_mem {cells : List (Str × Addr)} : ∀ {names : List (Str × NameKind)} {acc : List (Str × Addr)} {n : Str} {c : Addr}, (n, c) ∈ cloFrom cells names acc → (n, c) ∈ acc ∨ ((n, .free) ∈ names ∧ c = (cells.lookup n).getD 0)
  | [], _, _, _, h => .inl h
  | (m, k) :: r, acc, n, c, h => by
    unfold cloFrom at h
    split at h
    · rename_i hk
      have hk : k = .free := by simpa using hk
      rcases cloFrom_mem h with h | ⟨h1, h2⟩
      · rcases List.mem_cons.mp h with e | h
        · cases e; exact .inr ⟨hk ▸ List.mem_cons_self, rfl⟩
        · exact .inl h
      · exact .inr ⟨List.mem_cons_of_mem _ h1, h2⟩
    · rcases cloFrom_mem h with h | ⟨h1, h2⟩
      · exact .inl h
      · exact .inr ⟨List.mem_cons_of_mem _ h1, h2⟩
theorem cloFrom_acc {cells : List (Str × Addr)} : ∀ {names : List (Str × NameKind)} {acc : List (Str × Addr)} {p : Str × Addr}, p ∈ acc → p ∈ cloFrom cells names acc
  | [], _, _, h => h
  | (m, k) :: r, acc, p, h => by
    unfold cloFrom
    split
    · exact cloFrom_acc (List.mem_cons_of_mem _ h)
    · exact cloFrom_acc h
theorem cloFrom_has {cells : List (Str × Addr)} : ∀ {names : List (Str × NameKind)} {acc : List (Str × Addr)} {n : Str}, (n, .free) ∈ names → (n, (cells.lookup n).getD 0) ∈ cloFrom cells names acc
  | (m, k) :: r, acc, n, h => by
    unfold cloFrom
    rcases List.mem_cons.mp h with e | h
    · cases e
      exact cloFrom_acc List.mem_cons_self
    · split
      · exact cloFrom_has h
      · exact cloFrom_has h
theorem cells_mem : ∀ {names : List (Str × NameKind)} {h : Heap} {acc : List (Str × Addr)} {x : Str} {c : Addr}, (x, c) ∈ cellsFrom h.objs.size names acc →
    (x, c) ∈ acc ∨ ((x, .cell) ∈ names ∧ h.objs.size ≤ c ∧ CellAt (pushCells h names) c none)
  | [], _, _, _, _, h => .inl h
  | (n, k) :: r, h, acc, x, c, hm => by
    unfold cellsFrom at hm
    unfold pushCells
    split at hm
    · rename_i hk
      rw [if_pos hk]
      have hk : k = .cell := by simpa using hk
      rw [← Heap.size_push h { cls := .type "cell", data := .cell none }] at hm
      rcases cells_mem hm with hm | ⟨h1, h2, h3⟩
      · rcases List.mem_cons.mp hm with e | hm
        · cases e
          exact .inr ⟨hk ▸ List.mem_cons_self, Nat.le_refl _, _, pushCells_keeps r _ _ _ (Heap.get?_push_size _ rfl), rfl⟩
        · exact .inl hm
      · rw [Heap.size_push] at h2
        exact .inr ⟨List.mem_cons_of_mem _ h1, Nat.le_of_succ_le h2, h3⟩
    · rename_i hk
      rw [if_neg hk]
      rcases cells_mem hm with hm | ⟨h1, h2, h3⟩
      · exact .inl hm
      · exact .inr ⟨List.mem_cons_of_mem _ h1, h2, h3⟩
theorem cells_acc : ∀ {names : List (Str × NameKind)} {n : Nat} {acc : List (Str × Addr)} {p : Str × Addr}, p ∈ acc → p ∈ cellsFrom n names acc
  | [], _, _, _, h => h
  | (m, k) :: r, n, acc, p, h => by
    unfold cellsFrom
    split
    · exact cells_acc (List.mem_cons_of_mem _ h)
    · exact cells_acc h
theorem cells_has : ∀ {names : List (Str × NameKind)} {n : Nat} {acc : List (Str × Addr)} {x : Str}, (x, .cell) ∈ names → ∃ c, (x, c) ∈ cellsFrom n names acc
  | (m, k) :: r, n, acc, x, h => by
    unfold cellsFrom
    rcases List.mem_cons.mp h with e | h
    · cases e
      exact ⟨n, cells_acc List.mem_cons_self⟩
    · split
      · exact cells_has h
      · exact cells_has h
theorem cells_inj : ∀ {names : List (Str × NameKind)} {h : Heap} {acc : List (Str × Addr)} {x y : Str} {c : Addr}, (∀ p ∈ acc, p.2 < h.objs.size) → (∀ x y c, (x, c) ∈ acc → (y, c) ∈ acc → x = y) →
    (x, c) ∈ cellsFrom h.objs.size names acc → (y, c) ∈ cellsFrom h.objs.size names acc → x = y
  | [], _, _, _, _, _, _, hi, h1, h2 => hi _ _ _ h1 h2
  | (n, k) :: r, h, acc, x, y, c, hl, hi, h1, h2 => by
    unfold cellsFrom at h1 h2
    split at h1
    · rename_i hk
      rw [if_pos hk] at h2
      rw [← Heap.size_push h { cls := .type "cell", data := .cell none }] at h1 h2
      refine cells_inj (h := h.push _) (fun p hp => ?_) (fun x y c a b => ?_) h1 h2
      · rw [Heap.size_push]
        rcases List.mem_cons.mp hp with rfl | hp
        · exact Nat.lt_succ_self _
        · exact Nat.lt_succ_of_lt (hl p hp)
      · rcases List.mem_cons.mp a with e | a <;> rcases List.mem_cons.mp b with e' | b
        · cases e; cases e'; rfl
        · cases e; exact absurd (hl _ b) (Nat.lt_irrefl _)
        · cases e'; exact absurd (hl _ a) (Nat.lt_irrefl _)
        · exact hi _ _ _ a b
    · rename_i hk
      rw [if_neg hk] at h2
      exact cells_inj hl hi h1 h2
theorem newEnv_comp {M : Model} {A : Around} {E : Value → Shared → Prop} {s : Shared} {scope : Scope} {globals : Addr} {closure : List (Str × Addr)} {qual : Str} {func : Option Addr} {code : Value} {around : Env} {builtins : Addr} {Q : Env → Shared → Prop}
    (h : Q (newEnv scope s.heap.objs.size globals (cellsFrom (s.heap.objs.size + 1) scope.names closure) qual func code (some around) builtins)
      { s with heap := pushCells (s.heap.push { cls := .type "dict", data := .dict #[] }) scope.names }) :
    wpAny M A (newFunctionEnv scope globals closure [] qual func code (some around) builtins) Q E s := by
  simp only [newFunctionEnv, Option.isSome_some, if_true]
  refine wpAny_bind (wpAny_alloc ?_)
  refine wpAny_bind (wpAny_layCells _ (fun n k c => rfl) scope.names closure _ _ ?_)
  rw [show ({ s with heap := s.heap.push { cls := .type "dict", data := .dict #[] } } : Shared).heap.objs.size = s.heap.objs.size + 1 from Heap.size_push ..]
  rw [List.forIn_nil]
  exact wpAny_bind (wpAny_pure (wpAny_pure h))
/-- every name of the written scope, in the scope that runs -/
theorem lookup_relS {sc : Scope} : ∀ {names : List (Str × NameKind)} {x : Str} {k : NameKind},
    (names.map fun (n, k) => if (k == NameKind.free && sc.kind == .function && sc.names.lookup n == some .cell) then (n, NameKind.cell) else (n, k)).lookup x = some k →
    ∃ k', names.lookup x = some k' ∧ (k = k' ∨ (k' = .free ∧ k = .cell))
  | [], _, _, h => by simp at h
  | (n, k₀) :: r, x, k, h => by
    have ih := @lookup_relS sc r x k
    have h' : List.lookup x ((if (k₀ == NameKind.free && sc.kind == .function && sc.names.lookup n == some .cell) = true then (n, NameKind.cell) else (n, k₀)) :: (r.map _)) = some k := h
    cases hx : x == n with
    | true =>
      simp only [List.lookup_cons, hx]
      by_cases hc : (k₀ == NameKind.free && sc.kind == .function && sc.names.lookup n == some .cell) = true
      · rw [if_pos hc] at h'
        simp only [List.lookup_cons, hx] at h'
        cases h'
        simp only [Bool.and_eq_true, beq_iff_eq] at hc
        exact ⟨k₀, rfl, .inr ⟨hc.1.1, rfl⟩⟩
      · rw [if_neg hc] at h'
        simp only [List.lookup_cons, hx] at h'
        cases h'
        exact ⟨_, rfl, .inl rfl⟩
    | false =>
      simp only [List.lookup_cons, hx]
      by_cases hc : (k₀ == NameKind.free && sc.kind == .function && sc.names.lookup n == some .cell) = true
      · rw [if_pos hc] at h'
        simp only [List.lookup_cons, hx] at h'
        exact ih h'
      · rw [if_neg hc] at h'
        simp only [List.lookup_cons, hx] at h'
        exact ih h'
/-- the names of a comprehension's block: its own (with their places in N), or captured -/
structure BlkOk (N : List Str) (sc scope : Scope) (own : List (Str × Nat)) : Prop where
  kind : scope.kind = .function
  uniq : ∀ y ∈ scope.names, scope.names.lookup y.1 = some y.2
  ix : ∀ p ∈ own, N[p.2]? = some p.1
  free : ∀ y ∈ scope.names, y.2 = .free → sc.names.lookup y.1 = some .cell ∨ sc.names.lookup y.1 = some .free
  own : ∀ y ∈ scope.names, y.2 = .local ∨ y.2 = .cell → y.1 ∈ own.map (·.1) ∨ y.1 ∉ N
/-- the slots of the block's own names forgotten -/
def wipe (σ : St) : List Nat → St
  | [] => σ
  | v :: vs => (wipe σ vs).set v none
theorem wipe_length (σ : St) : ∀ vs : List Nat, (wipe σ vs).length = σ.length
  | [] => rfl
  | v :: vs => by unfold wipe; rw [List.length_set, wipe_length σ vs]
theorem wipe_some {σ : St} {i : Nat} {x : V} : ∀ {vs : List Nat}, (wipe σ vs)[i]? = some (some x) → σ[i]? = some (some x) ∧ i ∉ vs
  | [], h => ⟨h, by simp⟩
  | v :: vs, h => by
    unfold wipe at h
    by_cases hi : v = i
    · subst hi
      by_cases hv : v < (wipe σ vs).length
      · rw [List.getElem?_set_self hv] at h; cases h
      · rw [List.getElem?_eq_none (by simpa using hv)] at h; cases h
    · rw [List.getElem?_set_ne hi] at h
      obtain ⟨h1, h2⟩ := wipe_some h
      exact ⟨h1, by simp only [List.mem_cons, not_or]; exact ⟨fun e => hi e.symm, h2⟩⟩
/-- the context of a block that starts at s, its iterator's objects at fp -/
abbrev Cx.blk (X : Cx) (s : Shared) (H : Hp) (scope : Scope) (cenv : Env) (fp : List Addr) : Cx := { X with s_0 := s, H_0 := H, env := cenv, outer := X.stack, ex := fp, fn := fun x => scope.names.lookup x == some .cell, pn := [], xe := fun _ _ => False }
section
variable {X : Cx} {pins : List (Addr × Obj)} {σ : St} {H : Hp} {s : Shared}
theorem block_start {scope : Scope} {own : List (Str × Nat)} {fp : List Addr} (I : Inv X pins σ H s) (ok : BlkOk X.N X.env.scope scope own) (hN : X.N.Nodup) (hfp : ∀ b ∈ fp, FpOk X pins H b ∧ b < s.heap.objs.size) :
    Inv (X.blk s H scope (compEnvC scope (cellsFrom (s.heap.objs.size + 1) scope.names (cloFrom X.env.cells scope.names [])) s.heap.objs.size X.env) fp) [] (wipe σ (own.map (·.2))) H { s with heap := pushCells (s.heap.push { cls := .type "dict", data := .dict #[] }) scope.names } := by
  have hfree : ∀ y ∈ scope.names, y.2 = .free → ∃ c, X.env.cells.lookup y.1 = some c := fun y hy e => by
    rcases ok.free y hy e with k | k
    · exact I.ok.has _ (.inl k)
    · exact I.ok.has _ (.inr k)
  generalize hcenv : compEnvC scope (cellsFrom (s.heap.objs.size + 1) scope.names (cloFrom X.env.cells scope.names [])) s.heap.objs.size X.env = cenv
  have kp : ∀ b o, s.heap.get? b = some o → (pushCells (s.heap.push { cls := .type "dict", data := .dict #[] }) scope.names).get? b = some o := fun b o e => pushCells_keeps _ _ _ _ (Heap.get?_push_of_some _ e)
  have hL : cenv.locals = s.heap.objs.size := by rw [← hcenv]; rfl
  have hcl : cenv.cells = cellsFrom (s.heap.objs.size + 1) scope.names (cloFrom X.env.cells scope.names []) := by rw [← hcenv]; rfl
  have hsc : cenv.scope = relS scope X.env.scope := by rw [← hcenv]; rfl
  rw [← Heap.size_push s.heap { cls := .type "dict", data := .dict #[] }] at hcl
  have cm : ∀ {y c}, (y, c) ∈ cloFrom X.env.cells scope.names [] → X.env.cells.lookup y = some c ∧ c < s.heap.objs.size := fun {y c} hm => by
    rcases cloFrom_mem hm with hm | ⟨h1, rfl⟩
    · cases hm
    · obtain ⟨c, hc⟩ := hfree _ h1 rfl
      rw [hc]
      obtain ⟨w, z⟩ := I.cell _ _ hc
      exact ⟨rfl, z.lt⟩
  have mem : ∀ {y c}, cenv.cells.lookup y = some c → (X.env.cells.lookup y = some c ∧ c < s.heap.objs.size) ∨ (s.heap.objs.size + 1 ≤ c ∧ CellAt (pushCells (s.heap.push { cls := .type "dict", data := .dict #[] }) scope.names) c none) := fun {y c} e => by
    rw [hcl] at e
    rcases cells_mem (PySem.mem_of_lookup e) with hm | ⟨_, h2, h3⟩
    · exact .inl (cm hm)
    · rw [Heap.size_push] at h2; exact .inr ⟨h2, h3⟩
  have look : ∀ {y}, scope.names.lookup y = some .free → ∃ c, cenv.cells.lookup y = some c ∧ X.env.cells.lookup y = some c := fun {y} hl => by
    have hy : (y, NameKind.free) ∈ scope.names := PySem.mem_of_lookup hl
    obtain ⟨c', e'⟩ := mem_lookup (cells_acc (names := scope.names) (n := (s.heap.push { cls := .type "dict", data := .dict #[] }).objs.size) (cloFrom_has (cells := X.env.cells) (acc := []) hy))
    rw [← hcl] at e'
    refine ⟨c', e', ?_⟩
    rw [hcl] at e'
    rcases cells_mem (PySem.mem_of_lookup e') with hm | ⟨h1, _, _⟩
    · exact (cm hm).1
    · have := ok.uniq _ h1
      rw [hl] at this; cases this
  have okB : (X.blk s H scope cenv fp).Ok := by
    refine ⟨I.ok.mod, by show cenv.scope.kind = _; rw [hsc]; exact ok.kind, by show cenv.globals = _; rw [← hcenv]; exact I.ok.glob, by show cenv.builtins = _; rw [← hcenv]; exact I.ok.blt, by show s.heap.objs.size ≤ cenv.locals; rw [hL]; exact Nat.le_refl _,
      fun y z c e1 e2 => ?_, fun y hy => ?_, fun y c z e => ?_, I.ok.hd, I.ok.frames, .inl rfl, fun b hb => ⟨?_, fun y c e z => ?_⟩, I.bs, Nat.le_trans I.ok.bsz I.sz, fun b o e hb => ?_, fun b hb z => ?_, I.stack, I.stkFree⟩
    · have e1 : cenv.cells.lookup y = some c := e1
      have e2 : cenv.cells.lookup z = some c := e2
      rw [hcl] at e1 e2
      refine cells_inj (fun p hp => ?_) (fun y z c a b => I.ok.inj y z c (cm a).1 (cm b).1) (PySem.mem_of_lookup e1) (PySem.mem_of_lookup e2)
      rw [Heap.size_push]
      exact Nat.lt_succ_of_lt (cm (y := p.1) (c := p.2) hp).2
    · show ∃ c, cenv.cells.lookup y = some c
      have key : ∀ k, cenv.kindOf y = some k → (k = .cell ∨ k = .free) → ∃ c, cenv.cells.lookup y = some c := fun k hk hk' => by
        unfold Env.kindOf at hk
        rw [hsc] at hk
        obtain ⟨k', e, r⟩ := lookup_relS hk
        have : k' = .cell ∨ k' = .free := by
          rcases r with rfl | ⟨rfl, _⟩
          · exact hk'
          · exact .inr rfl
        rcases this with rfl | rfl
        · obtain ⟨c, hm⟩ := cells_has (n := (s.heap.push { cls := .type "dict", data := .dict #[] }).objs.size) (acc := cloFrom X.env.cells scope.names []) (PySem.mem_of_lookup e)
          obtain ⟨c', e'⟩ := mem_lookup hm
          exact ⟨c', by rw [hcl]; exact e'⟩
        · obtain ⟨c, h1, _⟩ := look e
          exact ⟨c, h1⟩
      rcases hy with hy | hy
      · exact key _ hy (.inl rfl)
      · exact key _ hy (.inr rfl)
    · have z : (scope.names.lookup y == some NameKind.cell) = true := z
      have z : scope.names.lookup y = some .cell := by simpa using z
      have e : cenv.cells.lookup y = some c := e
      rw [hcl] at e
      rcases cells_mem (PySem.mem_of_lookup e) with hm | ⟨_, h2, _⟩
      · rcases cloFrom_mem hm with hm | ⟨h1, _⟩
        · cases hm
        · have q := ok.uniq _ h1
          rw [z] at q; cases q
      · rw [Heap.size_push] at h2
        exact Nat.le_of_succ_le h2
    · show b ≠ cenv.locals
      rw [hL]; exact Nat.ne_of_lt (hfp b hb).2
    · have e : cenv.cells.lookup y = some c := e
      rcases mem e with ⟨h1, _⟩ | ⟨h1, _⟩
      · exact (hfp b hb).1.2.2.2.2.1 y c h1 z
      · have h2 : s.heap.objs.size + 1 ≤ b := by rw [← z]; exact h1
        exact absurd (Nat.lt_of_lt_of_le (hfp b hb).2 (Nat.le_of_succ_le h2)) (Nat.lt_irrefl _)
    · rcases (hfp b hb).1.2.2.2.1 with z | z
      · exact I.ok.noex b o e z
      · exact absurd (Nat.lt_of_lt_of_le (Heap.lt_size e) (Nat.le_trans I.ok.bsz z)) (Nat.lt_irrefl _)
    · rcases List.mem_cons.mp (I.stkSub b z) with z | z
      · exact (hfp b hb).1.2.1 z
      · exact (hfp b hb).1.2.2.1 z
  refine ⟨okB, rfl, I.bare, Un.kept kp, ⟨fun _ => none, ?_, fun i y av e1 e2 e3 => ?_⟩, fun y c e => ?_, ?_, fun y c e => ?_, fun p hp => ?_, I.hok.kept kp, by rw [wipe_length]; exact I.len⟩
  · show Heap.Ns _ cenv.locals _
    rw [hL]
    exact Heap.Ns.keeps (Heap.Ns.new ..) fun b o e => pushCells_keeps _ _ _ _ e
  · obtain ⟨e2, hne⟩ := wipe_some e2
    have hfr : scope.names.lookup y = some .free ∧ (cenv.kindOf y = some .cell ∨ cenv.kindOf y = some .free) := by
      have key : ∀ k, cenv.scope.names.lookup y = some k → k = .local ∨ k = .cell ∨ k = .free → scope.names.lookup y = some .free ∧ (cenv.kindOf y = some .cell ∨ cenv.kindOf y = some .free) := fun k hk hk' => by
        have hk0 := hk
        rw [hsc] at hk
        obtain ⟨k', e, r⟩ := lookup_relS hk
        have no : ¬ (k' = .local ∨ k' = .cell) := fun hh => by
          rcases ok.own _ (PySem.mem_of_lookup e) hh with e' | e'
          · obtain ⟨p, hp, hpy⟩ := List.mem_map.mp e'
            have e3 := ok.ix p hp
            have : p.1 = y := hpy
            rw [this] at e3
            exact hne (List.mem_map.mpr ⟨p, hp, nodup_ix hN e3 e1⟩)
          · exact e' (List.mem_of_getElem? e1)
        rcases r with rfl | ⟨rfl, rfl⟩
        · rcases hk' with rfl | rfl | rfl
          · exact absurd (.inl rfl) no
          · exact absurd (.inr rfl) no
          · exact ⟨e, .inr hk0⟩
        · exact ⟨e, .inl hk0⟩
      have e3 : Vis cenv.scope y := e3
      rcases e3 with e3 | e3 | e3
      · exact key _ e3 (.inl rfl)
      · exact key _ e3 (.inr (.inl rfl))
      · exact key _ e3 (.inr (.inr rfl))
    obtain ⟨m, hn, hl⟩ := I.loc
    have hvis : Vis X.env.scope y := (ok.free _ (PySem.mem_of_lookup hfr.1) rfl).elim (fun k => .inr (.inl k)) (fun k => .inr (.inr k))
    obtain ⟨w, r, q⟩ := hl i y av e1 e2 hvis
    refine ⟨w, r, .inr ⟨hfr.2, ?_⟩⟩
    obtain ⟨c, h1, h2⟩ := look hfr.1
    rcases q with ⟨k, _⟩ | ⟨_, c', e', z⟩
    · have k : X.env.scope.names.lookup y = some .local := k
      rcases ok.free _ (PySem.mem_of_lookup hfr.1) rfl with k' | k' <;> rw [show X.env.scope.names.lookup y = _ from k'] at k <;> cases k
    · rw [h2] at e'; cases e'
      exact ⟨c, h1, z.keeps kp⟩
  · have e : cenv.cells.lookup y = some c := e
    rcases mem e with ⟨h1, _⟩ | ⟨_, z⟩
    · obtain ⟨w, z⟩ := I.cell y c h1
      exact ⟨w, z.keeps kp⟩
    · exact ⟨_, z⟩
  · show H cenv.locals = none
    rw [hL]; exact I.hok.fresh (Nat.le_refl _)
  · have e : cenv.cells.lookup y = some c := e
    rcases mem e with ⟨h1, _⟩ | ⟨h1, _⟩
    · exact I.freeC y c h1
    · exact I.hok.fresh (Nat.le_of_succ_le h1)
  · exact absurd (show p ∈ ([] : List (Addr × Obj)) ++ [] from hp) (by simp)
/-- an item appended to a tracked list -/
theorem app_ok {E : Value → Shared → Prop} {D : Addr} {xs : List V} {y : V} {v : Value} {Q : Value → Shared → Prop} (I : Inv X pins σ H s) (hD : H D = some (.lst xs)) (hz : xs.length < sizeLine) (r : RelV y v)
    (h : ∀ s', Inv X pins σ (upd H D (.lst (xs ++ [y]))) s' → Q .none s') : wpAny (model X.prog X.w) X.A (call (.builtin "list.append") [.ref D, v]) Q E s := by
  obtain ⟨hz', its, n, ri, e⟩ := I.hok D _ hD
  have hl := ri.length
  refine append_at (hsz := by rw [List.size_toArray]; omega) e fun h' sb ho' => ?_
  refine h { s with heap := h' } (I.write (t' := s.toks) (by rw [hD]; trivial) (.inl rfl) (fun b u hb q => (sb.2 b hb).trans q) ⟨_, ho'⟩ ⟨by rw [List.length_append]; exact hz, its ++ [v], n + 1, ri.append (.cons r .nil), ?_⟩)
  rw [ho']
  simp
/-- a clause's tests -/
def PTs (X : Cx) (ifs : List Expr) (t : TT) : Prop :=
  ∀ (pins : List (Addr × Obj)) (s : Shared) (σ : St) (H : Hp) (Q : Bool → Hp → Prop), Inv X pins σ H s → t σ H Q →
    wpAny (model X.prog X.w) X.A (forIn ifs true fun c r => if r = true then do let ok ← isTrue c X.env (eval c X.env); pure (ForInStep.yield ok) else pure (ForInStep.yield r)) (TP X pins σ Q) X.xe s
def tYes : TT := fun _ H Q => Q true H
theorem pts_nil : PTs X [] tYes := fun _ _ _ H _ I h => wpAny_tests_nil ⟨H, I, h⟩
theorem pts_one {c : Expr} {t : TT} (h : PT X c t) : PTs X [c] t := fun pins s σ H Q I hw => wpAny_tests_one (h pins s σ H Q I hw)
end
theorem thnF {α : Type} {t : Sem α} {Q Q' : α → Shared → Prop} {M : Model} {A : Around} {E : Value → Shared → Prop} {s : Shared} (h : wpAny M A t Q (fun _ _ => False) s) (hQ : ∀ a s, Q a s → Q' a s) : wpAny M A t Q' E s := wpAny_mono h hQ fun _ _ z => False.elim z
/-- the loop of a list comprehension's block, the target of any form (codeAny_compLoop_tests asks a target that no tuple goes to; statement and proof follow it, PyProof/CompMap.lean:41-61, with the step letOwnedTupleGo kept) -/
theorem compLoop_any {prog : Program} {w : World} {A : Around} {R : Result → Shared → Prop} {s : Shared} {elt target iter : Expr} {ifs : List Expr} {scope : Scope} {pos : Pos} {it acc : Value} {env : Env} (I : Nat → Shared → Prop)
    (turn : ∀ n s, I n s → wpAny (model prog w) A (pyNext it) (fun r s₁ => match r with
      | none => R (.ok .next) s₁
      | some v => wpAny (model prog w) A (letOwnedTupleGo target it v) (fun _ s₁' => wpAny (model prog w) A (assign target env v) (fun _ s₂ =>
          wpAny (model prog w) A (forIn ifs true fun c r => if r = true then do let ok ← isTrue c env (eval c env); pure (ForInStep.yield ok) else pure (ForInStep.yield r)) (fun ok s₃ =>
            if ok = true then wpAny (model prog w) A (eval elt env) (fun x s₄ =>
              wpAny (model prog w) A (call (.builtin "list.append") [acc, x]) (fun _ s₅ => ∃ m, m < n ∧ I m s₅) (notedBy (model prog w) A env fun e s' => R (.error e) s') s₄) (notedBy (model prog w) A env fun e s' => R (.error e) s') s₃
            else ∃ m, m < n ∧ I m s₃) (notedBy (model prog w) A env fun e s' => R (.error e) s') s₂) (notedBy (model prog w) A env fun e s' => R (.error e) s') s₁') (notedBy (model prog w) A env fun e s' => R (.error e) s') s₁) (notedBy (model prog w) A env fun e s' => R (.error e) s') s)
    (n : Nat) (h : I n s) :
    codeAny (model prog w) A (.compLoop (.ListComp elt [⟨target, iter, ifs, 0⟩] scope pos) 0 it acc env) R s := by
  refine codeAny_loop rfl I (fun n s hI => ?_) n h
  show wpAny _ A ((compTurn (.ListComp elt [⟨target, iter, ifs, 0⟩] scope pos) 0 it acc env).onRaise (fun x => do noteFrame x env; theTreesLotGoes x)) _ _ s
  refine wpAny_noted ?_
  rw [compTurn_list]
  refine wpAny_bind (wpAny_standAt (wpAny_bind (wpAny_mono (turn n s hI) (fun r s₁ h₁ => ?_) fun _ _ h' => h')))
  cases r with
  | none => exact wpAny_pure h₁
  | some v =>
    refine wpAny_bind (wpAny_mono h₁ (fun _ s₁' h₁' => ?_) fun _ _ h' => h')
    refine wpAny_bind (wpAny_mono h₁' (fun _ s₂ h₂ => wpAny_bind (wpAny_mono h₂ (fun ok s₃ h₃ => ?_) fun _ _ h' => h')) fun _ _ h' => h')
    cases ok with
    | false => exact wpAny_pure ⟨rfl, h₃⟩
    | true =>
      exact wpAny_bind (wpAny_bind (wpAny_mono h₃ (fun x s₄ h₄ => wpAny_bind (wpAny_mono h₄ (fun _ s₅ h₅ => wpAny_pure (wpAny_pure ⟨rfl, h₅⟩)) fun _ _ h' => h')) fun _ _ h' => h'))
section
variable {X : Cx}
/-- [elt for target in iter if ..]: D the new list; W by the turn and a measure, Nx what a turn is to reach -/
def tLc (wi : TI) (g : TG) (tt : TT) (te : TE) (vs : List Nat) : TE := fun σ H Q => wi σ H fun J H1 => ∀ D, H1 D = none → ∃ W : Nat → Nat → Hp → Prop, (∃ m, W 0 m (upd H1 D (.lst []))) ∧ ∀ i m H, W i m H →
  (J.stop i H ∧ Q (.ref D) H) ∨ (J.go i H ∧ ∃ Nx : Hp → Prop, (∀ H', Nx H' → ∃ m', m' < m ∧ W (i + 1) m' H') ∧ ∀ x H', J.yld i H x H' → g x (wipe σ vs) H' fun σ2 H2 => wipe σ2 vs = wipe σ vs ∧ tt σ2 H2 fun b H3 =>
    if b = true then te σ2 H3 fun y H4 => ∃ acc, H4 D = some (.lst acc) ∧ acc.length < sizeLine ∧ Nx (upd H4 D (.lst (acc ++ [y]))) else Nx H3)
theorem lc_core {pins : List (Addr × Obj)} {s : Shared} {σ : St} {H : Hp} {Q : VK} {elt tg iter : Expr} {ifs : List Expr} {scope : Scope} {own : List (Str × Nat)} {pos pos' : Pos} {wi : TI} {g : TG} {tt : TT} {te : TE} {use : Option (Value → Sem Unit)} {Qf : Value → Shared → Prop}
    (hc : X.calm = true) (hN : X.N.Nodup) (I : Inv X pins σ H s) (hi : PI X tg iter wi) (ok : BlkOk X.N X.env.scope scope own)
    (hg : ∀ (s : Shared) (H : Hp) (C : Addr) (cl : List (Str × Addr)) (fp : List Addr), PG (X.blk s H scope (compEnvC scope cl C X.env) fp) tg g) (ht : ∀ (s : Shared) (H : Hp) (C : Addr) (cl : List (Str × Addr)) (fp : List Addr), PTs (X.blk s H scope (compEnvC scope cl C X.env) fp) ifs tt)
    (he : ∀ (s : Shared) (H : Hp) (C : Addr) (cl : List (Str × Addr)) (fp : List Addr), PE (X.blk s H scope (compEnvC scope cl C X.env) fp) elt te) (hs : ∀ x, foldedSetIterable iter X.env x = pure x)
    (h : tLc wi g tt te (own.map (·.2)) σ H Q)
    (hRR : ∀ D C s' m H', Inv X pins σ H' s' → Q (.ref D) H' → s'.heap.Ns C m → FpOk X pins H' C → compPost (model X.prog X.w) X.A X.xe use Qf (.ref D) C (.ok .next) s') :
    wpAny (model X.prog X.w) X.A (comprehension (.ListComp elt [⟨tg, iter, ifs, 0⟩] scope pos) scope X.env pos' (newList []) false (eval iter X.env) use) Qf X.xe s := by
  have hfree : ∀ y ∈ scope.names, y.2 = .free → ∃ c, X.env.cells.lookup y.1 = some c := fun y hy e => by
    rcases ok.free y hy e with k | k
    · exact I.ok.has _ (.inl k)
    · exact I.ok.has _ (.inr k)
  refine wpAny_comprehension_free (use := use) rfl hs (closure_ok hfree) ok.kind (fun y hy e => by rw [ok.uniq y hy, e])
    (thn (hi pins s σ H _ I h) fun xv s1 hx => thn hx fun itv s2 h2 => ?_)
  obtain ⟨it, fp, tn, J, H2, e, I2, T, st2, f2, q⟩ := h2
  subst e
  refine wpAny_newObj_type (newEnv_comp ?_) (by show 0 ≤ sizeLine; decide)
  generalize hD : s2.heap.objs.size = D
  have hDn : H2 D = none := I2.hok.fresh (Nat.le_of_eq hD)
  obtain ⟨W, ⟨m0, w0⟩, turn⟩ := q D hDn
  -- the new list
  generalize hs3 : ({ s2 with heap := s2.heap.push { cls := .type "list", data := .seq ([] : List Value).toArray } } : Shared) = s3
  have I3 : Inv X pins σ (upd H2 D (.lst [])) s3 := by
    rw [← hs3]
    refine I2.laid (t' := s2.toks) (fun b o e => Heap.get?_push_of_some _ e) (Nat.le_of_eq hD) ⟨Nat.zero_le _, [], 0, .nil, ?_⟩
    rw [← hD]
    exact Heap.get?_push_size _ rfl
  have h3 : s3.heap = s2.heap.push { cls := .type "list", data := .seq ([] : List Value).toArray } := by rw [← hs3]
  have sz : ∀ b ∈ fp, b < s2.heap.objs.size := fun b hb => by
    obtain ⟨o, e, _⟩ := T.obj _ _ st2 b hb
    exact Heap.lt_size e
  have f3 : ∀ b ∈ fp, FpOk X pins (upd H2 D (.lst [])) b ∧ b < s3.heap.objs.size := fun b hb => by
    have hlt := sz b hb
    refine ⟨⟨?_, (f2 b hb).2⟩, by rw [h3, Heap.size_push]; exact Nat.lt_succ_of_lt hlt⟩
    rw [upd_ne (by rw [← hD]; exact Nat.ne_of_lt hlt)]
    exact (f2 b hb).1
  have st3 : tn 0 s3.heap := T.keep _ _ _ st2 fun b _ o e => by rw [h3]; exact Heap.get?_push_of_some _ e
  have I4 := block_start I3 ok hN f3
  have pg := hg s3 (upd H2 D (.lst [])) s3.heap.objs.size (cellsFrom (s3.heap.objs.size + 1) scope.names (cloFrom X.env.cells scope.names [])) fp
  have pt := ht s3 (upd H2 D (.lst [])) s3.heap.objs.size (cellsFrom (s3.heap.objs.size + 1) scope.names (cloFrom X.env.cells scope.names [])) fp
  have pe := he s3 (upd H2 D (.lst [])) s3.heap.objs.size (cellsFrom (s3.heap.objs.size + 1) scope.names (cloFrom X.env.cells scope.names [])) fp
  show codeAny _ _ (.compStart (.ListComp elt [⟨tg, iter, ifs, 0⟩] scope pos) 0 (.ref it) (.ref D) (compEnvC scope (cellsFrom (s3.heap.objs.size + 1) scope.names (cloFrom X.env.cells scope.names [])) s3.heap.objs.size X.env)) (compPost (model X.prog X.w) X.A X.xe use Qf (.ref D) s3.heap.objs.size) { s3 with heap := pushCells (s3.heap.push { cls := .type "dict", data := .dict #[] }) scope.names }
  have nfp : ∀ b ∈ fp, (upd H2 D (.lst [])) b = none := fun b hb => (f3 b hb).1.1
  generalize hce : compEnvC scope (cellsFrom (s3.heap.objs.size + 1) scope.names (cloFrom X.env.cells scope.names [])) s3.heap.objs.size X.env = ce at I4 pg pt pe ⊢
  have cL : ce.locals = s3.heap.objs.size := by subst hce; rfl
  generalize hH3 : upd H2 D (.lst []) = H3 at I3 I4 pg pt pe w0 nfp f3
  generalize hs4 : ({ s3 with heap := pushCells (s3.heap.push { cls := .type "dict", data := .dict #[] }) scope.names } : Shared) = s4 at I4 ⊢
  have st4 : tn 0 s4.heap := T.keep _ _ _ st3 fun b _ o e => by rw [← hs4]; exact pushCells_keeps _ _ _ _ (Heap.get?_push_of_some _ e)
  have stat : ∀ {σ' : St} {H' : Hp} {s' : Shared}, Inv (X.blk s3 H3 scope ce fp) [] σ' H' s' → (∀ b ∈ fp, H' b = none) → ∀ b ∈ fp, FpOk (X.blk s3 H3 scope ce fp) [] H' b := fun {σ' H' s'} I' hn b hb =>
    ⟨hn b hb, (I'.ok.exf b hb).1, I'.ok.exfs b hb, .inl hb, fun x c e => (I'.ok.exf b hb).2 x c e, fun p hp => absurd (show p ∈ ([] : List (Addr × Obj)) ++ [] from hp) (by simp)⟩
  have loop : codeAny (model X.prog X.w) X.A (.compLoop (.ListComp elt [⟨tg, iter, ifs, 0⟩] scope pos) 0 (.ref it) (.ref D) ce) (compPost (model X.prog X.w) X.A X.xe use Qf (.ref D) s3.heap.objs.size) s4 := by
    refine compLoop_any (fun n s' => ∃ i H', Inv (X.blk s3 H3 scope ce fp) [] (wipe σ (own.map (·.2))) H' s' ∧ tn i s'.heap ∧ (∀ b ∈ fp, H' b = none) ∧ W i n H') ?_ m0 ⟨0, H3, I4, st4, nfp, w0⟩
    rintro n s5 ⟨i, H5, I5, st5, n5, w5⟩
    rcases turn i n H5 w5 with ⟨stop, qq⟩ | ⟨go, Nx, hNx, step⟩
    · have td := T.done (X.blk s3 H3 scope ce fp) rfl rfl rfl hc i [] s5 _ H5 (fun _ _ => False) I5 (stat I5 n5) st5 stop
      refine thnF td fun r s6 ⟨hr, I6⟩ => ?_
      subst hr
      -- back in the def's context
      have I7 : Inv X pins σ H5 s6 := I3.call' (ch := fp) I6.os I6.base I6.hok I6.bare fun b hb => ⟨(f3 b hb).1.2.2.2.1, (f3 b hb).1.2.1, (f3 b hb).1.2.2.2.2.1, (f3 b hb).1.2.2.2.2.2⟩
      have nC : H5 s3.heap.objs.size = none := by
        have z : H5 ce.locals = none := I6.free
        rw [cL] at z
        exact z
      obtain ⟨m, hn, _⟩ := I6.loc
      have hn : s6.heap.Ns ce.locals m := hn
      rw [cL] at hn
      exact hRR D s3.heap.objs.size s6 m H5 I7 qq hn (I3.fpOk (Nat.le_refl _) nC)
    · have ti := T.item (X.blk s3 H3 scope ce fp) rfl rfl rfl hc i [] s5 _ H5 (fun _ _ => False) I5 (stat I5 n5) st5 go
      refine thnF ti fun r s6 ⟨u, hr, h6⟩ => ?_
      subst hr
      refine thnF h6 fun _ s7 ⟨x, H7, I7, r7, y7, st7, n7⟩ => ?_
      have I7' := I7.pinned (stat I7 n7) (T.obj _ _ st7)
      refine thnF (pg _ s7 _ H7 x u _ I7' r7 (step x H7 y7)) fun _ s8 ⟨σ8, H8, I8, hw8, q8⟩ => ?_
      refine thnF (pt _ s8 σ8 H8 _ I8 q8) fun b s9 ⟨H9, I9, q9⟩ => ?_
      -- the turn's end
      have fin : ∀ {s' : Shared} {H' : Hp}, Inv (X.blk s3 H3 scope ce fp) ([] ++ pinsAt fp s7.heap) σ8 H' s' → Nx H' → ∃ m, m < n ∧ ∃ i H', Inv (X.blk s3 H3 scope ce fp) [] (wipe σ (own.map (·.2))) H' s' ∧ tn i s'.heap ∧ (∀ b ∈ fp, H' b = none) ∧ W i m H' := fun {s' H'} I' nx => by
        obtain ⟨m', hm, w'⟩ := hNx H' nx
        have pin' : ∀ b ∈ fp, ∀ o, s7.heap.get? b = some o → s'.heap.get? b = some o ∧ H' b = none := fun b hb o e =>
          let z := I'.pin (b, o) (List.mem_append_right _ (List.mem_append_right _ (mem_pinsAt hb e)))
          ⟨z.1, z.2.1⟩
        have hl : (wipe σ (own.map (·.2))).length = σ8.length := by rw [← hw8, wipe_length]
        refine ⟨m', hm, i + 1, H', (I'.unpinned (pins := [])).weak hl (fun j v e => ?_), T.keep _ _ _ st7 fun b hb o e => (pin' b hb o e).1, fun b hb => ?_, w'⟩
        · rw [← hw8] at e
          exact (wipe_some e).1
        · obtain ⟨o, e, _⟩ := T.obj _ _ st7 b hb
          exact (pin' b hb o e).2
      cases b with
      | false =>
        simp only [Bool.false_eq_true, if_false] at q9 ⊢
        exact fin I9 q9
      | true =>
        simp only [if_true] at q9 ⊢
        refine thnF (pe _ s9 σ8 H9 _ I9 q9) fun z s10 ⟨yv, H10, I10, r10, acc, hD10, hz10, nx⟩ => ?_
        exact app_ok (X := X.blk s3 H3 scope ce fp) I10 hD10 hz10 r10 fun s11 I11 => fin I11 nx
  exact codeAny_compStart_list loop (T.self X.A 0 _ _ _ st4 loop)
/-- as a value -/
theorem pe_lc {elt tg iter : Expr} {ifs : List Expr} {scope : Scope} {own : List (Str × Nat)} {pos : Pos} {wi : TI} {g : TG} {tt : TT} {te : TE} (hc : X.calm = true) (hN : X.N.Nodup) (hi : PI X tg iter wi) (ok : BlkOk X.N X.env.scope scope own)
    (hg : ∀ (s : Shared) (H : Hp) (C : Addr) (cl : List (Str × Addr)) (fp : List Addr), PG (X.blk s H scope (compEnvC scope cl C X.env) fp) tg g) (ht : ∀ (s : Shared) (H : Hp) (C : Addr) (cl : List (Str × Addr)) (fp : List Addr), PTs (X.blk s H scope (compEnvC scope cl C X.env) fp) ifs tt)
    (he : ∀ (s : Shared) (H : Hp) (C : Addr) (cl : List (Str × Addr)) (fp : List Addr), PE (X.blk s H scope (compEnvC scope cl C X.env) fp) elt te) (hs : ∀ x, foldedSetIterable iter X.env x = pure x := by intro _; rfl) :
    PE X (.ListComp elt [⟨tg, iter, ifs, 0⟩] scope pos) (tLc wi g tt te (own.map (·.2))) := by
  intro pins s σ H Q I h
  rw [eval_ListComp]
  refine lc_core hc hN I hi ok hg ht he hs h fun D C s' m H' I' q hn f => ⟨m, hn, fun h'' sb => ?_⟩
  obtain ⟨f0, f1, f2, f3, f4, f5⟩ := f
  exact ⟨.ref D, H', I'.turned (t' := s'.toks) (fun b o hb e => (sb.2 b hb).trans e) f0 f1 f3 f4 f5, rfl, q⟩
/-- name = [..] on one line, the name a local -/
theorem ps_setLc {i : Nat} {y : Str} {py : Pos} {elt tg iter : Expr} {ifs : List Expr} {scope : Scope} {own : List (Str × Nat)} {pos spos : Pos} {wi : TI} {g : TG} {tt : TT} {te : TE} (hc : X.calm = true) (hN : X.N.Nodup) (hy : X.N[i]? = some y) (hyl : X.env.scope.names.lookup y = some .local)
    (hsw : swapsWith (.ListComp elt [⟨tg, iter, ifs, 0⟩] scope pos) (some (.Name y py)) spos.line X.env = pure true) (hi : PI X tg iter wi) (ok : BlkOk X.N X.env.scope scope own)
    (hg : ∀ (s : Shared) (H : Hp) (C : Addr) (cl : List (Str × Addr)) (fp : List Addr), PG (X.blk s H scope (compEnvC scope cl C X.env) fp) tg g) (ht : ∀ (s : Shared) (H : Hp) (C : Addr) (cl : List (Str × Addr)) (fp : List Addr), PTs (X.blk s H scope (compEnvC scope cl C X.env) fp) ifs tt)
    (he : ∀ (s : Shared) (H : Hp) (C : Addr) (cl : List (Str × Addr)) (fp : List Addr), PE (X.blk s H scope (compEnvC scope cl C X.env) fp) elt te) (hs : ∀ x, foldedSetIterable iter X.env x = pure x := by intro _; rfl) :
    PS X (.Assign [.Name y py] (.ListComp elt [⟨tg, iter, ifs, 0⟩] scope pos) spos) (tAsg (tLc wi g tt te (own.map (·.2))) (gName i)) := by
  intro pins s σ H D I h
  rw [exec_Assign_Name_used _ _ _ _ hsw]
  refine wpAny_bind (wpAny_standAt (wpAny_bind ?_))
  show wpAny _ X.A (do let _ ← comprehension (.ListComp elt [⟨tg, iter, ifs, 0⟩] scope pos) scope X.env (firstIterPos [⟨tg, iter, ifs, 0⟩] pos) (newList []) false (eval iter X.env) (some (assign (.Name y py) X.env))) _ _ s
  have h : tLc wi g tt te (own.map (·.2)) σ H (fun x H1 => gName i x σ H1 D.nx) := h
  refine wpAny_bind (thn (lc_core (Qf := fun _ s' => SP X pins D .next s') hc hN I hi ok hg ht he hs h fun L C s' m H' I' q hn f => ?_) fun _ s' hq => wpAny_pure (wpAny_pure hq))
  show wpAny _ _ (assign (.Name y py) X.env (.ref L)) _ _ _
  refine wpAny_assign_Name (store_ok2 (v := V.ref L) I' hN hy (.inl hyl) rfl (fun s2 I2 ⟨a, sb, ha⟩ => ?_) (.inr hyl))
  obtain ⟨f0, f1, f2, f3, f4, f5⟩ := f
  have haC : C ≠ a := by
    rcases ha with z | z
    · rw [z]; exact f1
    · exact fun e => f4 y a z e.symm
  refine ⟨m, hn.sameBut sb haC, fun h3 sb3 => ?_⟩
  exact ⟨_, H', I2.turned (t' := s2.toks) (fun b o hb e => (sb3.2 b hb).trans e) f0 f1 f3 f4 f5, q⟩
theorem sw_true {elt : Expr} {gs : List Comprehension} {scope : Scope} {pos py : Pos} {y : Str} {l : Nat} {env : Env} (hk : env.scope.kind = .function) (hy : env.scope.names.lookup y = some .local) (hl : (py.line == pos.line) = true)
    (ha : (scope.names.any fun (n, k) => n == y && (k == .local || k == .cell)) = false) : swapsWith (.ListComp elt gs scope pos) (some (.Name y py)) l env = pure true := by
  have ky : env.kindOf y = some .local := hy
  have hb : env.blockKind = .function := by unfold Env.blockKind; rw [hk]; rfl
  unfold swapsWith
  simp only [hb, ky, ha, Expr.pos, hl]
  rfl
end
/-- over a range: Pv by the turn and the heap (the new list at D within) -/
theorem lc_range {lo : Int} {n : Nat} {g : TG} {tt : TT} {te : TE} {vs : List Nat} {σ : St} {H1 : Hp} {D : Addr} {Qd : Hp → Prop} (Pv : Nat → Hp → Prop) (h0 : Pv 0 (upd H1 D (.lst [])))
    (hs : ∀ i H, i < n → Pv i H → g (.int (lo + i)) (wipe σ vs) H fun σ2 H2 => wipe σ2 vs = wipe σ vs ∧ tt σ2 H2 fun b H3 =>
      if b = true then te σ2 H3 fun y H4 => ∃ acc, H4 D = some (.lst acc) ∧ acc.length < sizeLine ∧ Pv (i + 1) (upd H4 D (.lst (acc ++ [y]))) else Pv (i + 1) H3) (hd : ∀ H, Pv n H → Qd H) :
    ∃ W : Nat → Nat → Hp → Prop, (∃ m, W 0 m (upd H1 D (.lst []))) ∧ ∀ i m H, W i m H →
      ((Itr lo n).stop i H ∧ Qd H) ∨ ((Itr lo n).go i H ∧ ∃ Nx : Hp → Prop, (∀ H', Nx H' → ∃ m', m' < m ∧ W (i + 1) m' H') ∧ ∀ x H', (Itr lo n).yld i H x H' → g x (wipe σ vs) H' fun σ2 H2 => wipe σ2 vs = wipe σ vs ∧ tt σ2 H2 fun b H3 =>
        if b = true then te σ2 H3 fun y H4 => ∃ acc, H4 D = some (.lst acc) ∧ acc.length < sizeLine ∧ Nx (upd H4 D (.lst (acc ++ [y]))) else Nx H3) := by
  refine ⟨fun i m H => m = n - i ∧ i ≤ n ∧ Pv i H, ⟨n, by simp, Nat.zero_le _, h0⟩, ?_⟩
  rintro i m H ⟨rfl, hi, p⟩
  by_cases hlt : i < n
  · refine .inr ⟨hlt, Pv (i + 1), fun H' p' => ⟨n - (i + 1), by omega, rfl, hlt, p'⟩, fun x H' y => ?_⟩
    obtain ⟨e, y⟩ := y
    subst e y
    exact hs i _ hlt p
  · have e : i = n := by omega
    subst e
    exact .inl ⟨Nat.le_refl _, hd H p⟩
/-- over a list that the block leaves as it is -/
theorem lc_list {K : PySem.W.Frag} {a : Addr} {xs : List V} {g : TG} {tt : TT} {te : TE} {vs : List Nat} {σ : St} {H1 : Hp} {D : Addr} {Qd : Hp → Prop} (Pv : Nat → Hp → Prop) (h0 : Pv 0 (upd H1 D (.lst []))) (hl : ∀ i H, i ≤ xs.length → Pv i H → SqL K H a xs)
    (hs : ∀ i x H, xs[i]? = some x → Pv i H → g x (wipe σ vs) H fun σ2 H2 => wipe σ2 vs = wipe σ vs ∧ tt σ2 H2 fun b H3 =>
      if b = true then te σ2 H3 fun y H4 => ∃ acc, H4 D = some (.lst acc) ∧ acc.length < sizeLine ∧ Pv (i + 1) (upd H4 D (.lst (acc ++ [y]))) else Pv (i + 1) H3) (hd : ∀ H, Pv xs.length H → Qd H) :
    ∃ W : Nat → Nat → Hp → Prop, (∃ m, W 0 m (upd H1 D (.lst []))) ∧ ∀ i m H, W i m H →
      ((Itl K a).stop i H ∧ Qd H) ∨ ((Itl K a).go i H ∧ ∃ Nx : Hp → Prop, (∀ H', Nx H' → ∃ m', m' < m ∧ W (i + 1) m' H') ∧ ∀ x H', (Itl K a).yld i H x H' → g x (wipe σ vs) H' fun σ2 H2 => wipe σ2 vs = wipe σ vs ∧ tt σ2 H2 fun b H3 =>
        if b = true then te σ2 H3 fun y H4 => ∃ acc, H4 D = some (.lst acc) ∧ acc.length < sizeLine ∧ Nx (upd H4 D (.lst (acc ++ [y]))) else Nx H3) := by
  refine ⟨fun i m H => m = xs.length - i ∧ i ≤ xs.length ∧ Pv i H, ⟨xs.length, by simp, Nat.zero_le _, h0⟩, ?_⟩
  rintro i m H ⟨rfl, hi, p⟩
  have q := hl i H hi p
  by_cases hlt : i < xs.length
  · refine .inr ⟨⟨xs, xs[i], q, by simp [hlt]⟩, Pv (i + 1), fun H' p' => ⟨xs.length - (i + 1), by omega, rfl, hlt, p'⟩, fun x H' y => ?_⟩
    obtain ⟨e, y⟩ := y
    subst e
    exact hs i x _ (y xs q) p
  · have e : i = xs.length := by omega
    subst e
    exact .inl ⟨⟨xs, q, Nat.le_refl _⟩, hd H p⟩
def blkC (N : List Str) (sc scope : Scope) (own : List (Str × Nat)) : Bool :=
  (match scope.kind with | .function => true | _ => false) && (scope.names.all fun y => decide (scope.names.lookup y.1 = some y.2)) && (own.all fun p => decide (N[p.2]? = some p.1)) &&
    (scope.names.all fun y => match y.2 with
      | .free => (match sc.names.lookup y.1 with | some .cell => true | some .free => true | _ => false)
      | .local => decide (y.1 ∈ own.map (·.1)) || decide (y.1 ∉ N)
      | .cell => decide (y.1 ∈ own.map (·.1)) || decide (y.1 ∉ N)
      | _ => true)
theorem blkOk_by {N : List Str} {sc scope : Scope} {own : List (Str × Nat)} (h : blkC N sc scope own = true) : BlkOk N sc scope own := by
  unfold blkC at h
  simp only [Bool.and_eq_true, List.all_eq_true, decide_eq_true_eq] at h
  obtain ⟨⟨⟨h1, h2⟩, h3⟩, h4⟩ := h
  refine ⟨?_, h2, h3, fun y hy e => ?_, fun y hy e => ?_⟩
  · split at h1
    · assumption
    · cases h1
  · have q := h4 y hy
    simp only [e] at q
    split at q <;> first | exact .inl (by assumption) | exact .inr (by assumption) | cases q
  · have q := h4 y hy
    rcases e with e | e <;> (simp only [e, Bool.or_eq_true, decide_eq_true_eq] at q; exact q)
end L2
namespace L2
open PySem PySem.Spec PyProof.Rows
section
variable {prog : Program} {w : World} {A : Around} {R : Result → Shared → Prop} {s : Shared} {elt t0 i0 t1 i1 : Expr} {ifs0 ifs1 : List Expr} {scope : Scope} {pos : Pos} {it acc : Value} {env : Env}
end
section
variable {X : Cx}
/-- [elt for tg in iter if .. for tg1 in iter1 if ..]: behind the first clause's store and tests the second source's own loop, from which Nx is reached. vs: the block's names; vs1: those of the second target -/
def tLc2 (wi : TI) (g : TG) (tt : TT) (wi1 : TI) (g1 : TG) (tt1 : TT) (te : TE) (vs vs1 : List Nat) : TE := fun σ H Q => wi σ H fun J H1 => ∀ D, H1 D = none → ∃ W : Nat → Nat → Hp → Prop, (∃ m, W 0 m (upd H1 D (.lst []))) ∧ ∀ i m H, W i m H →
  (J.stop i H ∧ Q (.ref D) H) ∨ (J.go i H ∧ ∃ Nx : Hp → Prop, (∀ H', Nx H' → ∃ m', m' < m ∧ W (i + 1) m' H') ∧ ∀ x H', J.yld i H x H' → g x (wipe σ vs) H' fun σ2 H2 => wipe σ2 vs = wipe σ vs ∧ tt σ2 H2 fun b H3 =>
    if b = true then wi1 σ2 H3 fun J1 H4 => ∃ W1 : Nat → Nat → Hp → Prop, (∃ m, W1 0 m H4) ∧ ∀ j k H, W1 j k H →
      (J1.stop j H ∧ Nx H) ∨ (J1.go j H ∧ ∃ Nx1 : Hp → Prop, (∀ H', Nx1 H' → ∃ k', k' < k ∧ W1 (j + 1) k' H') ∧ ∀ x H', J1.yld j H x H' → g1 x (wipe σ2 vs1) H' fun σ3 H5 => wipe σ3 vs1 = wipe σ2 vs1 ∧ tt1 σ3 H5 fun b H6 =>
        if b = true then te σ3 H6 fun y H7 => ∃ acc, H7 D = some (.lst acc) ∧ acc.length < sizeLine ∧ Nx1 (upd H7 D (.lst (acc ++ [y]))) else Nx1 H6)
    else Nx H3)
end
end L2
namespace L2
open PySem PySem.Spec PyProof.Rows
section
variable {κ : Type} [DecidableEq κ]
def valV (kvs : List (κ × V)) (k : κ) : Option V := (kvs.find? fun kv => decide (kv.1 = k)).map (·.2)
/-- in its place, or at the end -/
def putK (kvs : List (κ × V)) (k : κ) (v : V) : List (κ × V) :=
  if (kvs.any fun kv => decide (kv.1 = k)) = true then kvs.map (fun kv => if kv.1 = k then (kv.1, v) else kv) else kvs ++ [(k, v)]
def dropK (kvs : List (κ × V)) (k : κ) : List (κ × V) := kvs.filter fun kv => decide (kv.1 ≠ k)
theorem valV_pos {p : κ × V} {r : List (κ × V)} {k : κ} (e : p.1 = k) : valV (p :: r) k = some p.2 := by simp [valV, List.find?_cons, e]
theorem valV_neg {p : κ × V} {r : List (κ × V)} {k : κ} (e : ¬ p.1 = k) : valV (p :: r) k = valV r k := by simp [valV, List.find?_cons, e]
theorem valV_any (k : κ) : ∀ kvs : List (κ × V), (kvs.any fun kv => decide (kv.1 = k)) = (valV kvs k).isSome
  | [] => rfl
  | p :: r => by
    rw [List.any_cons]
    by_cases e : p.1 = k
    · simp only [valV_pos e, decide_eq_true e, Bool.true_or, Option.isSome_some]
    · rw [valV_neg e, decide_eq_false e, Bool.false_or]; exact valV_any k r
theorem valV_map (k j : κ) (y : V) : ∀ kvs : List (κ × V), valV (kvs.map fun kv => if kv.1 = k then (kv.1, y) else kv) j = (valV kvs j).map fun x => if j = k then y else x
  | [] => rfl
  | p :: r => by
    have ih := valV_map k j y r
    rw [List.map_cons]
    by_cases h : p.1 = k
    · rw [if_pos h]
      by_cases e : p.1 = j
      · rw [valV_pos (p := (p.1, y)) e, valV_pos e, Option.map_some, if_pos (e.symm.trans h)]
      · rw [valV_neg (p := (p.1, y)) e, valV_neg e, ih]
    · rw [if_neg h]
      by_cases e : p.1 = j
      · rw [valV_pos (p := p) e, valV_pos e, Option.map_some, if_neg (fun z => h (e.trans z))]
      · rw [valV_neg (p := p) e, valV_neg e, ih]
theorem valV_snoc (k j : κ) (y : V) : ∀ kvs : List (κ × V), valV kvs k = none → valV (kvs ++ [(k, y)]) j = if j = k then some y else valV kvs j
  | [], _ => by
    by_cases e : k = j
    · rw [if_pos e.symm]; exact valV_pos (p := (k, y)) e
    · rw [if_neg (fun z => e z.symm)]; exact valV_neg (p := (k, y)) e
  | p :: r, hn => by
    rw [List.cons_append]
    have hk : ¬ p.1 = k := fun z => by rw [valV_pos z] at hn; cases hn
    rw [valV_neg hk] at hn
    have ih := valV_snoc k j y r hn
    by_cases e : p.1 = j
    · rw [valV_pos e, valV_pos e, if_neg (fun z => hk (e.trans z))]
    · rw [valV_neg e, valV_neg e, ih]
theorem valV_put (kvs : List (κ × V)) (k j : κ) (y : V) : valV (putK kvs k y) j = if j = k then some y else valV kvs j := by
  unfold putK
  by_cases a : (kvs.any fun kv => decide (kv.1 = k)) = true
  · rw [if_pos a, valV_map]
    rw [valV_any] at a
    by_cases e : j = k
    · obtain ⟨x, hx⟩ := Option.isSome_iff_exists.mp a
      rw [if_pos e, e, hx, Option.map_some, if_pos rfl]
    · rw [if_neg e]
      cases valV kvs j with
      | none => rfl
      | some x => rw [Option.map_some, if_neg e]
  · rw [if_neg a]
    refine valV_snoc k j y kvs ?_
    rw [valV_any] at a
    cases q : valV kvs k with
    | none => rfl
    | some x => rw [q] at a; exact (a rfl).elim
theorem length_putK (kvs : List (κ × V)) (k : κ) (v : V) : (putK kvs k v).length ≤ kvs.length + 1 := by
  unfold putK
  split
  · rw [List.length_map]; omega
  · rw [List.length_append, List.length_cons, List.length_nil]; omega
theorem RelO.isSome_eq {o : Option V} {u : Option Value} (r : RelO o u) : o.isSome = u.isSome := by
  cases o with
  | none => cases u with
    | none => rfl
    | some _ => exact (show False from r).elim
  | some _ => cases u with
    | none => exact (show False from r).elim
    | some _ => rfl
theorem RelO.getD {o : Option V} {u : Option Value} {d : V} {d' : Value} (r : RelO o u) (rd : RelV d d') : RelV (o.getD d) (u.getD d') := by
  cases o with
  | none => cases u with
    | none => exact rd
    | some _ => exact (show False from r).elim
  | some _ => cases u with
    | none => exact (show False from r).elim
    | some _ => exact r
/-- raw tables of the same keys -/
theorem KV.val {kvs : List (κ × V)} {vs : List (κ × Value)} (r : KV kvs vs) (k : κ) : RelO (valV kvs k) (valueAt vs k) := by
  unfold KV at r
  induction r with
  | nil => exact True.intro
  | @cons p q ps qs h t ih =>
    obtain ⟨h1, h2⟩ := h
    by_cases e : p.1 = k
    · have e' : q.1 = k := h1.symm.trans e
      have b : valueAt (q :: qs) k = some q.2 := by simp [valueAt, List.find?_cons, e']
      rw [valV_pos e, b]; exact h2
    · have e' : ¬ q.1 = k := fun z => e (h1.trans z)
      have b : valueAt (q :: qs) k = valueAt qs k := by simp [valueAt, List.find?_cons, e']
      rw [valV_neg e, b]; exact ih
theorem KV.any {kvs : List (κ × V)} {vs : List (κ × Value)} (r : KV kvs vs) (k : κ) : (kvs.any fun kv => decide (kv.1 = k)) = vs.any fun kv => decide (kv.1 = k) := by
  unfold KV at r
  induction r with
  | nil => rfl
  | cons h t ih => rw [List.any_cons, List.any_cons, ih, h.1]
theorem KV.repl {kvs : List (κ × V)} {vs : List (κ × Value)} (r : KV kvs vs) (k : κ) {y : V} {u : Value} (ry : RelV y u) :
    KV (kvs.map fun kv => if kv.1 = k then (kv.1, y) else kv) (vs.map fun kv => if kv.1 = k then (kv.1, u) else kv) := by
  unfold KV at r ⊢
  induction r with
  | nil => exact .nil
  | @cons p q ps qs h t ih =>
    rw [List.map_cons, List.map_cons]
    refine .cons ?_ ih
    obtain ⟨h1, h2⟩ := h
    by_cases e : p.1 = k
    · rw [if_pos e, if_pos (h1.symm.trans e)]; exact ⟨h1, ry⟩
    · rw [if_neg e, if_neg (fun z => e (h1.trans z))]; exact ⟨h1, h2⟩
theorem KV.put {kvs : List (κ × V)} {vs : List (κ × Value)} (r : KV kvs vs) (k : κ) {y : V} {u : Value} (ry : RelV y u) : KV (putK kvs k y) (stored vs k u) := by
  unfold putK stored
  rw [r.any k]
  by_cases e : (vs.any fun kv => decide (kv.1 = k)) = true
  · rw [if_pos e, if_pos e]; exact r.repl k ry
  · rw [if_neg e, if_neg e]; exact Paired.snoc r ⟨rfl, ry⟩
theorem KV.drop {kvs : List (κ × V)} {vs : List (κ × Value)} (r : KV kvs vs) (k : κ) : KV (dropK kvs k) (without vs k) := by
  unfold KV at r ⊢
  unfold dropK without
  induction r with
  | nil => exact .nil
  | @cons p q ps qs h t ih =>
    obtain ⟨h1, h2⟩ := h
    rw [List.filter_cons, List.filter_cons]
    by_cases e : p.1 = k
    · have a : ¬ decide (p.1 ≠ k) = true := by simp [e]
      have b : ¬ decide (q.1 ≠ k) = true := by simp [h1.symm.trans e]
      rw [if_neg a, if_neg b]; exact ih
    · have e' : ¬ q.1 = k := fun z => e (h1.trans z)
      have a : decide (p.1 ≠ k) = true := by simp [e]
      have b : decide (q.1 ≠ k) = true := by simp [e']
      rw [if_pos a, if_pos b]; exact .cons ⟨h1, h2⟩ ih
theorem KV.keys {kvs : List (κ × V)} {vs : List (κ × Value)} (r : KV kvs vs) : kvs.map (·.1) = vs.map (·.1) := by
  unfold KV at r
  induction r with
  | nil => rfl
  | cons h t ih => rw [List.map_cons, List.map_cons, ih, h.1]
theorem KV.length {kvs : List (κ × V)} {vs : List (κ × Value)} (r : KV kvs vs) : kvs.length = vs.length := Paired.length r
end
theorem kV_is {P : Program} {w : World} {k : Key} {u : Value} (r : RelV (kV k) u) : (mixKind P w).is k u = true := by
  cases k with
  | inl i => obtain ⟨t, e⟩ := (show ∃ t, u = Value.int i t from r); subst e; exact mixKind_int P w i t
  | inr x => obtain ⟨t, e⟩ := (show ∃ t, u = Value.str x t from r); subst e; exact mixKind_str P w x t
theorem items_are {P : Program} {w : World} : ∀ {ks : List Key} {us : List Value}, Vals (ks.map kV) us → ItemsAre (mixKind P w) ks us
  | [], _, r => by rw [List.map_nil] at r; cases r; exact .nil
  | k :: ks, _, r => by
    rw [List.map_cons] at r
    cases r with
    | cons h t => exact .cons (kV_is h) (items_are t)
/-- raw entries of a dict with tuple keys -/
abbrev KT (H : Hp) : List (List Key × V) → List (List Key × Addr × Value) → Prop := Paired fun p q => p.1 = q.1 ∧ H q.2.1 = some (.tup (p.1.map kV)) ∧ RelV p.2 q.2.2
theorem KT.val {H : Hp} {kvs : List (List Key × V)} {xs : List (List Key × Addr × Value)} (r : KT H kvs xs) (k : List Key) : RelO (valV kvs k) ((atKey xs k).map (·.2)) := by
  induction r with
  | nil => exact True.intro
  | @cons p q ps qs h t ih =>
    obtain ⟨h1, _, h2⟩ := h
    by_cases e : p.1 = k
    · have e' : q.1 = k := h1.symm.trans e
      have b : atKey (q :: qs) k = some q.2 := by simp [atKey, List.find?_cons, e']
      rw [valV_pos e, b]; exact h2
    · have e' : ¬ q.1 = k := fun z => e (h1.trans z)
      have b : atKey (q :: qs) k = atKey qs k := by simp [atKey, List.find?_cons, e']
      rw [valV_neg e, b]; exact ih
theorem KT.repl {H : Hp} {kvs : List (List Key × V)} {xs : List (List Key × Addr × Value)} (r : KT H kvs xs) (k : List Key) {y : V} {u : Value} (ry : RelV y u) :
    KT H (kvs.map fun kv => if kv.1 = k then (kv.1, y) else kv) (xs.map (putAt k u)) := by
  induction r with
  | nil => exact .nil
  | @cons p q ps qs h t ih =>
    rw [List.map_cons, List.map_cons]
    refine .cons ?_ ih
    obtain ⟨h1, h2, h3⟩ := h
    unfold putAt
    by_cases e : p.1 = k
    · rw [if_pos e, if_pos (h1.symm.trans e)]; exact ⟨h1, h2, ry⟩
    · rw [if_neg e, if_neg (fun z => e (h1.trans z))]; exact ⟨h1, h2, h3⟩
theorem KT.put {H : Hp} {kvs : List (List Key × V)} {xs : List (List Key × Addr × Value)} (r : KT H kvs xs) (k : List Key) {b : Addr} {y : V} {u : Value} (hb : H b = some (.tup (k.map kV))) (ry : RelV y u) :
    KT H (putK kvs k y) (storedH xs k b u) := by
  have e : (kvs.any fun kv => decide (kv.1 = k)) = (atKey xs k).isSome := by
    rw [valV_any, (r.val k).isSome_eq, Option.isSome_map]
  unfold putK storedH
  rw [e]
  by_cases q : (atKey xs k).isSome = true
  · rw [if_pos q, if_pos q]; exact r.repl k ry
  · rw [if_neg q, if_neg q]; exact Paired.snoc r ⟨rfl, hb, ry⟩
theorem KT.keeps {H H' : Hp} {kvs : List (List Key × V)} {xs : List (List Key × Addr × Value)} (r : KT H kvs xs) (ht : ∀ b ys, H b = some (.tup ys) → H' b = some (.tup ys)) : KT H' kvs xs :=
  Paired.mapP r fun _ _ z => ⟨z.1, ht _ _ z.2.1, z.2.2⟩
section
variable {P : Program} {w : World} {H : Hp} {h : Heap} {a : Addr}
theorem rd_of {u : HO} (ok : HOk P w H h) (e : Rd H a u) : ObjOk P w H h a u := e.ok ok
theorem dk_rd {kvs : List (Key × V)} (ok : HOk P w H h) (e : Rd H a (.dK kvs)) : kvs.length ≤ sizeLine ∧ (a == sysModules) = false ∧ ∃ vs, KV kvs vs ∧ h.DictOf (mixKind P w) a vs :=
  show ObjOk P w H h a (.dK kvs) from rd_of ok e
theorem dk_of {kvs : List (Key × V)} (ok : HOk P w H h) (e : H a = some (.dK kvs)) : kvs.length ≤ sizeLine ∧ (a == sysModules) = false ∧ ∃ vs, KV kvs vs ∧ h.DictOf (mixKind P w) a vs := dk_rd ok (.inl e)
/-- a tracked tuple of ints and texts is a key -/
theorem key_of {ks : List Key} (ok : HOk P w H h) (e : H a = some (.tup (ks.map kV))) : (tupleKind (mixKind P w)).is h ks a := by
  obtain ⟨_, its, r, o, h1, h2, n, h3⟩ := (show ObjOk P w H h a (.tup (ks.map kV)) from ok a _ e)
  exact ⟨o, its.toArray, n, h1, h2, h3, by simpa using items_are r⟩
theorem dt_rd {kvs : List (List Key × V)} (ok : HOk P w H h) (e : Rd H a (.dT kvs)) : kvs.length ≤ sizeLine ∧ (a == sysModules) = false ∧
    ∃ xs, KT H kvs xs ∧ h.DictOfH (tupleKind (mixKind P w)) a xs := by
  obtain ⟨z, y, xs, r, o, es, ep, h1, h2, h3, h4, h5⟩ := (show ObjOk P w H h a (.dT kvs) from rd_of ok e)
  refine ⟨z, y, xs, r, o, es, ep, h1, h2, h3, h4, fun x hx => ?_, h5⟩
  have all : ∀ {l : List (List Key × V)} {m : List (List Key × Addr × Value)}, KT H l m → ∀ x ∈ m, (tupleKind (mixKind P w)).is h x.1 x.2.1 := by
    intro l m q
    induction q with
    | nil => intro x hx; exact nomatch hx
    | @cons p q ps qs hq t ih =>
      intro x hx
      rcases List.mem_cons.mp hx with e | hx
      · subst e
        exact key_of ok (by rw [← hq.1]; exact hq.2.1)
      · exact ih x hx
  exact all r x hx
theorem dt_of {kvs : List (List Key × V)} (ok : HOk P w H h) (e : H a = some (.dT kvs)) : kvs.length ≤ sizeLine ∧ (a == sysModules) = false ∧
    ∃ xs, KT H kvs xs ∧ h.DictOfH (tupleKind (mixKind P w)) a xs := dt_rd ok (.inl e)
end
/-- what the dict at a holds at the key y -/
def DGet (H : Hp) (a : Addr) (y : V) (r : Option V) : Prop :=
  (∃ kvs k, Rd H a (.dK kvs) ∧ y = kV k ∧ r = valV kvs k) ∨ ∃ kvs k b, Rd H a (.dT kvs) ∧ y = .ref b ∧ H b = some (.tup (k.map kV)) ∧ r = valV kvs k
/-- the heap behind a[y] = v -/
def DPut (H : Hp) (a : Addr) (y v : V) (H' : Hp) : Prop :=
  (∃ kvs k, H a = some (.dK kvs) ∧ y = kV k ∧ kvs.length < sizeLine ∧ H' = upd H a (.dK (putK kvs k v))) ∨
  ∃ kvs k b, H a = some (.dT kvs) ∧ y = .ref b ∧ H b = some (.tup (k.map kV)) ∧ kvs.length < sizeLine ∧ H' = upd H a (.dT (putK kvs k v))
theorem DGet.k {H : Hp} {a : Addr} {kvs : List (Key × V)} {k : Key} (e : H a = some (.dK kvs)) : DGet H a (kV k) (valV kvs k) := .inl ⟨kvs, k, .inl e, rfl, rfl⟩
theorem DGet.t {H : Hp} {a b : Addr} {kvs : List (List Key × V)} {k : List Key} (e : H a = some (.dT kvs)) (eb : H b = some (.tup (k.map kV))) : DGet H a (.ref b) (valV kvs k) := .inr ⟨kvs, k, b, .inl e, rfl, eb, rfl⟩
theorem DPut.k {H : Hp} {a : Addr} {kvs : List (Key × V)} {k : Key} {v : V} (e : H a = some (.dK kvs)) (hl : kvs.length < sizeLine) : DPut H a (kV k) v (upd H a (.dK (putK kvs k v))) := .inl ⟨kvs, k, e, rfl, hl, rfl⟩
theorem DPut.t {H : Hp} {a b : Addr} {kvs : List (List Key × V)} {k : List Key} {v : V} (e : H a = some (.dT kvs)) (eb : H b = some (.tup (k.map kV))) (hl : kvs.length < sizeLine) :
    DPut H a (.ref b) v (upd H a (.dT (putK kvs k v))) := .inr ⟨kvs, k, b, e, rfl, eb, hl, rfl⟩
section
variable {X : Cx} {pins : List (Addr × Obj)} {σ : St} {H : Hp} {s : Shared} {a : Addr} {y v : V} {u r : Value} {o : Option V} {A : Around} {E : Value → Shared → Prop}
theorem Inv.big (I : Inv X pins σ H s) : sysModules < s.heap.objs.size := by
  have h : mainGlobals < s.heap.objs.size := (I.mod.glob.keeps I.bk).lt
  exact Nat.lt_trans (by decide) h
/-- d[y], there -/
theorem d_getItem {Q : Value → Shared → Prop} (hu : A.units + 1 < cLine) (I : Inv X pins σ H s) (g : DGet H a y (some v)) (ry : RelV y u) (h : ∀ w' s', Inv X pins σ H s' → RelV v w' → Q w' s') :
    wpAny (model X.prog X.w) A (getItem (.ref a) u) Q E s := by
  rcases g with ⟨kvs, k, e, ey, l⟩ | ⟨kvs, k, b, e, ey, eb, l⟩
  · subst ey
    obtain ⟨z, hd, vs, rel, dd⟩ := dk_rd I.hok e
    obtain ⟨w', hw, rw'⟩ := RelO.some_of (v := v) (o := valueAt vs k) (by rw [l]; exact rel.val k)
    exact wpAny_getItem_of (kV_is ry) dd.mapOf hw (h w' _ (I.tok _) rw')
  · subst ey
    cases (show u = Value.ref b from ry)
    obtain ⟨z, hd, xs, rel, dd⟩ := dt_rd I.hok e
    obtain ⟨w', hw, rw'⟩ := RelO.some_of (v := v) (o := (atKey xs k).map (·.2)) (by rw [l]; exact rel.val k)
    obtain ⟨p, hp, hp2⟩ := Option.map_eq_some_iff.mp hw
    refine wpAny_getItem_heap (tupleKind_room_in1 hu) (key_of I.hok eb) dd hp ?_
    rw [hp2]
    exact h w' _ (I.tok _) rw'
/-- y in d -/
theorem d_in {Q : Value → Shared → Prop} (hu : A.units + 1 < cLine) (I : Inv X pins σ H s) (g : DGet H a y o) (ry : RelV y u) (h : ∀ s', Inv X pins σ H s' → Q (.bool o.isSome) s') :
    wpAny (model X.prog X.w) A (compareOp .In u (.ref a)) Q E s := by
  rcases g with ⟨kvs, k, e, ey, l⟩ | ⟨kvs, k, b, e, ey, eb, l⟩
  · subst ey
    obtain ⟨z, hd, vs, rel, dd⟩ := dk_rd I.hok e
    refine wpAny_in_of (kV_is ry) hd dd.mapOf ?_
    rw [← (rel.val k).isSome_eq, ← l]
    exact h _ (I.tok _)
  · subst ey
    cases (show u = Value.ref b from ry)
    obtain ⟨z, hd, xs, rel, dd⟩ := dt_rd I.hok e
    refine wpAny_in_heap (tupleKind_room_in1 hu) (key_of I.hok eb) hd dd ?_
    have q := (rel.val k).isSome_eq
    rw [Option.isSome_map] at q
    rw [← q, ← l]
    exact h _ (I.tok _)
theorem d_notIn {Q : Value → Shared → Prop} (hu : A.units + 1 < cLine) (I : Inv X pins σ H s) (g : DGet H a y o) (ry : RelV y u) (h : ∀ s', Inv X pins σ H s' → Q (.bool (!o.isSome)) s') :
    wpAny (model X.prog X.w) A (compareOp .NotIn u (.ref a)) Q E s := by
  rcases g with ⟨kvs, k, e, ey, l⟩ | ⟨kvs, k, b, e, ey, eb, l⟩
  · subst ey
    obtain ⟨z, hd, vs, rel, dd⟩ := dk_rd I.hok e
    refine wpAny_notIn_of (kV_is ry) hd dd.mapOf ?_
    rw [← (rel.val k).isSome_eq, ← l]
    exact h _ (I.tok _)
  · subst ey
    cases (show u = Value.ref b from ry)
    obtain ⟨z, hd, xs, rel, dd⟩ := dt_rd I.hok e
    refine wpAny_notIn_heap (tupleKind_room_in1 hu) (key_of I.hok eb) hd dd ?_
    have q := (rel.val k).isSome_eq
    rw [Option.isSome_map] at q
    rw [← q, ← l]
    exact h _ (I.tok _)
/-- a dict's object is replaced -/
theorem d_write {h' : Heap} {t' : Nat} {ob : HO} (I : Inv X pins σ H s) (mu : Mut (H a)) (hs : Heap.SameBut a s.heap h') (he : ∃ q, h'.get? a = some q) (new : ObjOk X.prog X.w (upd H a ob) h' a ob) :
    Inv X pins σ (upd H a ob) { s with heap := h', toks := t' } :=
  I.write (x := a) (e := a) mu (.inl rfl) (fun b q hb z => (hs.2 b hb).trans z) he new
theorem dk_new {P : Program} {w : World} {H' : Hp} {h' : Heap} {kvs : List (Key × V)} {vs : List (Key × Value)} (z : kvs.length ≤ sizeLine) (hd : (a == sysModules) = false) (rel : KV kvs vs) (dd : h'.DictOf (mixKind P w) a vs) :
    ObjOk P w H' h' a (.dK kvs) := ⟨z, hd, vs, rel, dd⟩
/-- d[y] = v -/
theorem d_setItem {H' : Hp} {Q : Unit → Shared → Prop} (hu : A.units + 1 < cLine) (I : Inv X pins σ H s) (g : DPut H a y v H') (ry : RelV y u) (rv : RelV v r) (h : ∀ s', Inv X pins σ H' s' → Q () s') :
    wpAny (model X.prog X.w) A (setItem (.ref a) u r) Q E s := by
  rcases g with ⟨kvs, k, e, ey, l, eH⟩ | ⟨kvs, k, b, e, ey, eb, l, eH⟩
  · subst ey eH
    obtain ⟨z, hd, vs, rel, dd⟩ := dk_of I.hok e
    have hz : vs.length ≤ sizeLine := by rw [← rel.length]; exact z
    have hl : (putK kvs k v).length ≤ sizeLine := by have := length_putK kvs k v; omega
    refine wpAny_setItem_pairs (hsz := hz) (kV_is ry) dd fun h' dd' hs => h _ ?_
    have he : ∃ q, h'.get? a = some q := let ⟨q, _, _, hq, _⟩ := dd'; ⟨q, hq⟩
    exact d_write I (by rw [e]; exact True.intro) hs he (dk_new hl hd (rel.put k rv) dd')
  · subst ey eH
    cases (show u = Value.ref b from ry)
    obtain ⟨z, hd, xs, rel, dd⟩ := dt_of I.hok e
    have hz : xs.length ≤ sizeLine := by rw [← Paired.length rel]; exact z
    have hl : (putK kvs k v).length ≤ sizeLine := by have := length_putK kvs k v; omega
    refine wpAny_setItem_heap (hsz := hz) (tupleKind_room_in1 hu) (key_of I.hok eb) dd fun h' dd' hs => h _ ?_
    obtain ⟨q, es, ep, hq, h2, h3, h4, _, h5⟩ := dd'
    refine d_write I (by rw [e]; exact True.intro) hs ⟨q, hq⟩ ⟨hl, hd, _, (rel.put k eb rv).keeps fun c ys ec => ?_, q, es, ep, hq, h2, h3, h4, h5⟩
    rw [upd_ne (ne_of ec e (fun z => nomatch z))]
    exact ec
end
section
variable {X : Cx} {pins : List (Addr × Obj)} {σ : St} {H : Hp} {s : Shared} {a : Addr} {kvs : List (Key × V)} {k : Key} {u : Value} {A : Around} {E : Value → Shared → Prop}
end
/-- the element of a subscription, not a slice -/
def NoSl (i : Expr) : Prop := ∀ ov iv, subscripted i false ov iv = operate [ov, iv] (getItem ov iv)
theorem subD_of {prog : Program} {w : World} {A : Around} {E : Value → Shared → Prop} {s : Shared} {env : Env} {value slice : Expr} {pos : Pos} {T id : String} {Q : Value → Shared → Prop}
    (hl : typeLookup (.type T) "__getitem__" = pure (some (.builtin id))) (hs : NoSl slice)
    (h : wpAny (model prog w) A (eval value env) (fun o s₁ => wpAny (model prog w) A (eval slice env) (fun i s₂ => s₂.TypeIs o T ∧ wpAny (model prog w) A (getItem o i) Q E s₂) E s₁) E s) :
    wpAny (model prog w) A (eval (.Subscript value slice pos) env) Q E s := by
  refine Subscript_ (wpAny_mono h (fun o s₁ h₁ => wpAny_mono h₁ (fun i s₂ h₂ => ?_) fun _ _ x => x) fun _ _ x => x)
  obtain ⟨hT, h₂⟩ := h₂
  unfold subscriptTail
  refine wpAny_bind ?_
  rw [getitemInPython_of_ne hT.not_modules]
  refine wpAny_bind (wpAny_specialOf hT hl ?_)
  have fin : wpAny (model prog w) A (subscripted slice false o i) (fun r s₃ => wpAny (model prog w) A (letTemporaryGo value o r >>= fun _ => pure r) Q E s₃) E s₂ := by
    rw [hs o i]
    exact wpAny_operating (wpAny_mono h₂ (fun r s₃ h₃ => wpAny_bind (wpAny_letTemporaryGo (wpAny_pure h₃))) fun _ _ x => x)
  first
    | exact wpAny_pure (wpAny_bind fin)
    | exact wpAny_bind (wpAny_pure (wpAny_bind fin))
    | exact wpAny_bind fin
theorem dict_typeIs {X : Cx} {pins : List (Addr × Obj)} {σ : St} {H : Hp} {s : Shared} {a : Addr} {y : V} {o : Option V} (I : Inv X pins σ H s) (g : DGet H a y o) : s.TypeIs (.ref a) "dict" := by
  rcases g with ⟨kvs, k, e, _, _⟩ | ⟨kvs, k, b, e, _, _, _⟩
  · obtain ⟨_, _, vs, _, dd⟩ := dk_rd I.hok e
    exact dd.typeIs
  · obtain ⟨_, _, xs, _, dd⟩ := dt_rd I.hok e
    exact dd.typeIs
/-- d[y] -/
def tDGet (td ty : TE) : TE := fun σ H Q => td σ H fun x H1 => ty σ H1 fun y H2 => ∃ a v, x = .ref a ∧ DGet H2 a y (some v) ∧ Q v H2
/-- y in d, y not in d -/
def tDIn (ty td : TE) : TE := fun σ H Q => ty σ H fun y H1 => td σ H1 fun x H2 => ∃ a o, x = .ref a ∧ DGet H2 a y o ∧ Q (.bl o.isSome) H2
def tDNotIn (ty td : TE) : TE := fun σ H Q => ty σ H fun y H1 => td σ H1 fun x H2 => ∃ a o, x = .ref a ∧ DGet H2 a y o ∧ Q (.bl (!o.isSome)) H2
/-- d[y] = v -/
def sDPut (td ty tv : TE) : TS := fun D σ H => tv σ H fun v H1 => td σ H1 fun x H2 => ty σ H2 fun y H3 => ∃ a H4, x = .ref a ∧ DPut H3 a y v H4 ∧ D.nx σ H4
/-- d[y] op= v -/
def sDAug (td ty tv : TE) (rd : V → V → Hp → VK → Prop) : TS := fun D σ H => td σ H fun x H1 => ty σ H1 fun y H2 => ∃ a v, x = .ref a ∧ DGet H2 a y (some v) ∧
  tv σ H2 fun y2 H3 => rd v y2 H3 fun z H4 => ∃ H5, DPut H4 a y z H5 ∧ D.nx σ H5
/-- del d[y] -/
def sDDel (td ty : TE) : TS := fun D σ H => td σ H fun x H1 => ty σ H1 fun y H2 => ∃ a kvs k, x = .ref a ∧ H2 a = some (.dK kvs) ∧ y = kV k ∧ (valV kvs k).isSome = true ∧ D.nx σ (upd H2 a (.dK (dropK kvs k)))
section
variable {X : Cx} {o i e value : Expr} {pos pos' tpos : Pos} {td ty tv : TE}
theorem pe_dget (hu : X.A.units + 1 < cLine) (ho : PE X o td) (hi : PE X i ty) (hs : NoSl i) : PE X (.Subscript o i pos) (tDGet td ty) := by
  intro pins s σ H Q I h
  refine subD_of PySem.F.slot_dict_getitem.lookup hs (thn (ho pins s σ H _ I h) fun u s1 ⟨x, H1, I1, rx, q1⟩ => thn (hi pins s1 σ H1 _ I1 q1) fun iv s2 ⟨y, H2, I2, ry, a, v, ex, g, q2⟩ => ?_)
  subst ex
  obtain rfl : u = Value.ref a := rx
  exact ⟨dict_typeIs I2 g, d_getItem hu I2 g ry fun w' s3 I3 rw' => ⟨v, H2, I3, rw', q2⟩⟩
theorem pc_din (hu : X.A.units + 1 < cLine) (hi : PE X i ty) (ho : PE X o td) : PC X .In i o (tDIn ty td) := by
  intro pins s σ H Q I h
  refine thn (hi pins s σ H _ I h) fun iv s1 ⟨y, H1, I1, ry, q1⟩ => thn (ho pins s1 σ H1 _ I1 q1) fun u s2 ⟨x, H2, I2, rx, a, ov, ex, g, q2⟩ => ?_
  subst ex
  obtain rfl : u = Value.ref a := rx
  exact d_in hu I2 g ry fun s3 I3 => ⟨.bl ov.isSome, H2, I3, rfl, q2⟩
theorem pc_dnotin (hu : X.A.units + 1 < cLine) (hi : PE X i ty) (ho : PE X o td) : PC X .NotIn i o (tDNotIn ty td) := by
  intro pins s σ H Q I h
  refine thn (hi pins s σ H _ I h) fun iv s1 ⟨y, H1, I1, ry, q1⟩ => thn (ho pins s1 σ H1 _ I1 q1) fun u s2 ⟨x, H2, I2, rx, a, ov, ex, g, q2⟩ => ?_
  subst ex
  obtain rfl : u = Value.ref a := rx
  exact d_notIn hu I2 g ry fun s3 I3 => ⟨.bl (!ov.isSome), H2, I3, rfl, q2⟩
theorem ps_dput (hu : X.A.units + 1 < cLine) (ho : PE X o td) (hi : PE X i ty) (hv : PE X value tv) (hs : swapsWith value (some (.Subscript o i pos')) pos.line X.env = pure false) :
    PS X (.Assign [.Subscript o i pos'] value pos) (sDPut td ty tv) := by
  intro pins s σ H D I h
  refine wpAny_Assign_Subscript (thn (hv pins s σ H _ I h) fun r s1 ⟨v, H1, I1, rv, q1⟩ => thn (ho pins s1 σ H1 _ I1 q1) fun u s2 ⟨x, H2, I2, rx, q2⟩ => thn (hi pins s2 σ H2 _ I2 q2) fun iv s3 ⟨y, H3, I3, ry, a, H4, ex, g, q3⟩ => ?_) hs
  subst ex
  obtain rfl : u = Value.ref a := rx
  exact d_setItem hu I3 g ry rv fun s4 I4 => ⟨σ, H4, I4, q3⟩
end
theorem dk_empty {P : Program} {w : World} {H : Hp} (h : Heap) (hb : sysModules < h.objs.size) : ObjOk P w H (h.push { cls := .type "dict", data := .dict #[] }) h.objs.size (.dK []) :=
  ⟨Nat.zero_le _, beq_eq_false_iff_ne.mpr (Ne.symm (Nat.ne_of_lt hb)), [], .nil, Heap.DictOf.new h⟩
theorem dt_empty {P : Program} {w : World} {H : Hp} (h : Heap) (hb : sysModules < h.objs.size) : ObjOk P w H (h.push { cls := .type "dict", data := .dict #[] }) h.objs.size (.dT []) :=
  ⟨Nat.zero_le _, beq_eq_false_iff_ne.mpr (Ne.symm (Nat.ne_of_lt hb)), [], .nil, _, #[], 0, Heap.get?_push_size _ rfl, ⟨rfl, rfl, rfl⟩, rfl, rfl, List.nodup_nil⟩
/-- {}, to be a dict of the kind that is wanted -/
def tDNewK : TE := fun _ H Q => ∀ p, H p = none → Q (.ref p) (upd H p (.dK []))
def tDNewT : TE := fun _ H Q => ∀ p, H p = none → Q (.ref p) (upd H p (.dT []))
section
variable {X : Cx} {pos : Pos}
theorem pe_dnewK : PE X (.Dict [] [] pos) tDNewK := fun pins s σ H Q I h =>
  wpAny_Dict_empty ⟨.ref s.heap.objs.size, _, I.laid (a := s.heap.objs.size) (o := .dK []) (t' := s.toks) (fun _ _ q => Heap.get?_push_of_some _ q) (Nat.le_refl _) (dk_empty s.heap I.big), rfl, h _ (I.hok.fresh (Nat.le_refl _))⟩
theorem pe_dnewT : PE X (.Dict [] [] pos) tDNewT := fun pins s σ H Q I h =>
  wpAny_Dict_empty ⟨.ref s.heap.objs.size, _, I.laid (a := s.heap.objs.size) (o := .dT []) (t' := s.toks) (fun _ _ q => Heap.get?_push_of_some _ q) (Nat.le_refl _) (dt_empty s.heap I.big), rfl, h _ (I.hok.fresh (Nat.le_refl _))⟩
end
/-- the pairs of a display, from the left -/
def tPairs : List (TE × TE) → St → Hp → (List (V × V) → Hp → Prop) → Prop
  | [], _, H, Q => Q [] H
  | (tk, tv) :: r, σ, H, Q => tk σ H fun x H1 => tv σ H1 fun y H2 => tPairs r σ H2 fun ps H3 => Q ((x, y) :: ps) H3
abbrev VV : List (V × V) → List (Value × Value) → Prop := Paired fun p q => RelV p.1 q.1 ∧ RelV p.2 q.2
def PPs (X : Cx) (pos : Pos) (keys : List (Option Expr)) (values : List Expr) (trs : List (TE × TE)) : Prop :=
  ∀ (pins : List (Addr × Obj)) (s : Shared) (σ : St) (H : Hp) (Q : List (V × V) → Hp → Prop), Inv X pins σ H s → tPairs trs σ H Q →
    wpAny (model X.prog X.w) X.A (evalPairs (pairTrees keys values X.env pos)) (fun vs s' => ∃ ps H', Inv X pins σ H' s' ∧ VV ps vs ∧ Q ps H') X.xe s
def mergeK (kvs more : List (Key × V)) : List (Key × V) := more.foldl (fun acc kv => putK acc kv.1 kv.2) kvs
/-- {k: v, ..} with keys ints and texts; the new dict stands empty while the pairs are made -/
def tDisp (trs : List (TE × TE)) : TE := fun σ H Q => ∀ p, H p = none → tPairs trs σ (upd H p (.dK [])) fun ps H2 => H2 p = some (.dK []) ∧ ∃ kvs : List (Key × V), ps = kvs.map (fun kv => (kV kv.1, kv.2)) ∧ kvs.length ≤ 15 ∧ Q (.ref p) (upd H2 p (.dK (mergeK [] kvs)))
/-- a method call o.m(e) of a built-in, with one argument: what must be seen of the text -/
structure M1 (X : Cx) (o : Expr) (m : Str) (apos : Pos) (e : Expr) (cpos : Pos) : Prop where
  base : attributeBase o m X.env (eval o X.env) = eval o X.env
  few : ((backTo cpos (starEach [e] X.env)).all (fun x => !x.1) && (backToKw cpos (keywordEach [] X.env)).all (fun x => x.1.isSome)
    && decide (([e] : List Expr).length + ([] : List Keyword).length + (if ([] : List Keyword).isEmpty then 0 else 1) < 30)) = true
  line : (apos.endLine == cpos.line) = true
  trees : backTo cpos (starEach [e] X.env) = [(false, eval e X.env)]
structure M2 (X : Cx) (o : Expr) (m : Str) (apos : Pos) (e f : Expr) (cpos : Pos) : Prop where
  base : attributeBase o m X.env (eval o X.env) = eval o X.env
  few : ((backTo cpos (starEach [e, f] X.env)).all (fun x => !x.1) && (backToKw cpos (keywordEach [] X.env)).all (fun x => x.1.isSome)
    && decide (([e, f] : List Expr).length + ([] : List Keyword).length + (if ([] : List Keyword).isEmpty then 0 else 1) < 30)) = true
  line : (apos.endLine == cpos.line) = true
  trees : backTo cpos (starEach [e, f] X.env) = [(false, eval e X.env), (false, eval f X.env)]
/-- a is a dict, whatever its keys -/
def IsD (H : Hp) (a : Addr) : Prop := (∃ kvs, Rd H a (.dK kvs)) ∨ ∃ kvs, Rd H a (.dT kvs)
section
variable {X : Cx} {pins : List (Addr × Obj)} {σ : St} {H : Hp} {s : Shared} {a : Addr} {y d : V} {u r : Value} {o : Option V} {A : Around} {E : Value → Shared → Prop}
end
def tDGet1 (td ty : TE) : TE := fun σ H Q => td σ H fun x H1 => ∃ a, x = .ref a ∧ IsD H1 a ∧ ty σ H1 fun y H2 => ∃ o, DGet H2 a y o ∧ Q (o.getD .non) H2
def tDGet2 (td ty tx : TE) : TE := fun σ H Q => td σ H fun x H1 => ∃ a, x = .ref a ∧ IsD H1 a ∧ ty σ H1 fun y H2 => tx σ H2 fun z H3 => ∃ o, DGet H3 a y o ∧ Q (o.getD z) H3
/-- d.pop(k): there; d.pop(k, x): there or not -/
def tDPop1 (td ty : TE) : TE := fun σ H Q => td σ H fun x H1 => ∃ a, x = .ref a ∧ IsD H1 a ∧ ty σ H1 fun y H2 => ∃ kvs k v, H2 a = some (.dK kvs) ∧ y = kV k ∧ valV kvs k = some v ∧ Q v (upd H2 a (.dK (dropK kvs k)))
def tDPop2 (td ty tx : TE) : TE := fun σ H Q => td σ H fun x H1 => ∃ a, x = .ref a ∧ IsD H1 a ∧ ty σ H1 fun y H2 => tx σ H2 fun z H3 => ∃ kvs k, H3 a = some (.dK kvs) ∧ y = kV k ∧
  (∀ v, valV kvs k = some v → Q v (upd H3 a (.dK (dropK kvs k)))) ∧ (valV kvs k = none → Q z H3)
section
variable {X : Cx} {o e f : Expr} {apos cpos : Pos} {td ty tx : TE}
end
section
variable {X : Cx} {pins : List (Addr × Obj)} {σ : St} {H : Hp} {s : Shared} {a : Addr} {kvs : List (Key × V)} {A : Around} {E : Value → Shared → Prop}
theorem d_copyOf {Q : Value → Shared → Prop} (I : Inv X pins σ H s) (e : Rd H a (.dK kvs)) (h : ∀ p s', H p = none → Inv X pins σ (upd H p (.dK kvs)) s' → Q (.ref p) s') : wpAny (model X.prog X.w) A (call (.type "dict") [.ref a]) Q E s := by
  obtain ⟨z, hd, vs, rel, dd⟩ := dk_rd I.hok e
  refine kt_call_dict hd dd (by rw [← rel.length]; exact z) fun h' dd' hs => ?_
  refine h _ _ (I.hok.fresh (Nat.le_refl _)) (I.laid (a := s.heap.objs.size) (o := .dK kvs) (t' := s.toks) (fun b q hq => ?_) (Nat.le_refl _) (dk_new z (beq_eq_false_iff_ne.mpr (Ne.symm (Nat.ne_of_lt I.big))) rel dd'))
  exact (hs.2 b (Nat.ne_of_lt (Heap.lt_size hq))).trans (Heap.get?_push_of_some _ hq)
end
section
variable {X : Cx} {pins : List (Addr × Obj)} {σ : St} {H : Hp} {s : Shared} {a : Addr} {y : V} {u : Value} {A : Around} {E : Value → Shared → Prop}
end
end L2
namespace L2
open PySem PySem.Spec PyProof.Rows
section
variable {prog : Program} {w : World} {A : Around} {E : Value → Shared → Prop}
end
section
variable {X : Cx}
end
end L2
namespace L2
open PySem PySem.Spec PyProof.Rows
theorem boot_reversed5 : bootBuiltins "reversed" = some (.type "reversed") := by decide +kernel
section
variable {X : Cx} {pins : List (Addr × Obj)} {σ : St} {H : Hp} {s : Shared} {h' : Heap}
/-- .. and one new object is laid -/
theorem Inv.turnedNew {t' : Nat} {ch : List Addr} {T : Addr} {ob : HO} (I : Inv X pins σ H s) (k : ∀ b o, b ∉ ch → s.heap.get? b = some o → h'.get? b = some o) (hf : ∀ b ∈ ch, FpOk X pins H b) (hT : s.heap.objs.size ≤ T)
    (new : ObjOk X.prog X.w (upd H T ob) h' T ob) : Inv X pins σ (upd H T ob) { s with heap := h', toks := t' } := by
  have hn : H T = none := I.hok.fresh hT
  have nit : ∀ b u, H b = some u → b ∉ ch := fun b u e z => by
    have q := (hf b z).1
    rw [q] at e; cases e
  refine I.step (g' := s.gens) (d' := s.drawn) (ch := ch) (fun b hb => ⟨(hf b hb).2.2.2.1, (hf b hb).2.1, (hf b hb).2.2.2.2.1, (hf b hb).2.2.2.2.2⟩) (fun b o _ _ hc e _ => k b o hc e) (fun b o _ _ hc e _ => ⟨o.slots, k b o hc e⟩)
    (fun b o _ e n => ?_) (fun b o hc e => ⟨o, k b o hc e⟩) (fun b xs e => ?_) (fun b o u e => ?_) (fun b ps e => ⟨#[], ?_⟩) (fun m hm => ?_) (fun b u e => ?_) I.bare
  · rw [upd_ne (Nat.ne_of_lt (Nat.lt_of_lt_of_le (Heap.lt_size e) hT))]; exact n
  · rw [upd_ne (ne_of_none e hn)]; exact e
  · rw [upd_ne (ne_of_none e hn)]; exact e
  · rw [upd_ne (ne_of_none e hn), e]; simp
  · obtain ⟨o, es, ep, ho, r⟩ := hm
    exact ⟨o, es, ep, k _ o (fun z => (hf _ z).2.1 rfl) ho, r⟩
  · by_cases hb : b = T
    · subst hb
      rw [upd_same] at e
      cases e
      exact new
    · rw [upd_ne hb] at e
      refine (I.hok b u e).stay (fun c v hc q => k c v ?_ q) (fun c q => by rw [upd_ne (ne_of_none q hn)]; exact q) fun c xs q => by rw [upd_ne (ne_of_none q hn)]; exact q
      rcases hc with z | z
      · rw [z]; exact nit b u e
      · exact nit c _ z
theorem Inv.lock {d : Addr} {u : HO} (I : Inv X pins σ H s) (h : H d = some u) (mu : Mut (some u)) : ∃ od, Inv X pins σ (upd H d (.frz od u)) s := by
  have x := I.hok d u h
  have ex : ∃ od, s.heap.get? d = some od := by
    cases u with
    | lst xs => obtain ⟨_, _, _, _, e⟩ := x; exact ⟨_, e⟩
    | dK kvs => obtain ⟨_, _, _, _, o, _, _, e, _⟩ := x; exact ⟨o, e⟩
    | dT kvs => obtain ⟨_, _, _, _, o, _, _, e, _⟩ := x; exact ⟨o, e⟩
    | set S n => obtain ⟨o, _, _, _, e, _⟩ := x; exact ⟨o, e⟩
    | ins C dx fs => obtain ⟨_, _, _, e, _⟩ := x; exact ⟨_, e⟩
    | ext φ => obtain ⟨_, ⟨_, e⟩, _⟩ := x; exact ⟨_, e⟩
    | _ => exact False.elim mu
  obtain ⟨od, e⟩ := ex
  have new : ObjOk X.prog X.w (upd H d (.frz od u)) s.heap d (.frz od u) := by
    refine ⟨e, x.stay (fun b v _ q => q) (fun b q => ?_) fun b xs q => ?_⟩
    · rw [upd_ne (fun z => by rw [z, h] at q; cases q; exact mu)]; exact q
    · rw [upd_ne (fun z => by rw [z, h] at q; cases q; exact mu)]; exact q
  exact ⟨od, I.write (x := d) (e := d) (t' := s.toks) (h' := s.heap) (by rw [h]; exact mu) (.inl rfl) (fun b v _ q => q) ⟨od, e⟩ new⟩
theorem Inv.nofrz {d : Addr} {u : HO} (I : Inv X pins σ H s) (h : H d = some u) (mu : Mut (some u)) : ∀ o' u', X.H_0 d ≠ some (.frz o' u') := fun o' u' e => by
  have q := I.base.frzs d o' u' e
  rw [h] at q
  cases q
  exact mu
theorem Inv.unlock {d : Addr} {od : Obj} {u : HO} (I : Inv X pins σ H s) (h : H d = some (.frz od u)) (hn : ∀ o' u', X.H_0 d ≠ some (.frz o' u')) : Inv X pins σ (upd H d u) s := by
  have neH : ∀ b o, H b = some o → (∀ o' u', o ≠ .frz o' u') → b ≠ d := fun b o e hne z => by
    rw [z, h] at e
    cases e
    exact hne _ _ rfl
  have neN : ∀ b, H b = none → b ≠ d := fun b e z => by rw [z, h] at e; cases e
  refine ⟨I.ok, I.os, I.bare, ⟨I.base.keep, I.base.slot, fun b o e n hx => ?_, I.base.there, fun b xs e => ?_, fun b o x e => ?_, fun b ps e => ?_⟩, I.loc, I.cell, ?_, fun x c e => ?_, fun p hp => ?_, fun b o e => ?_, I.len⟩
  · rw [upd_ne (neN b (I.base.free b o e n hx))]; exact I.base.free b o e n hx
  · have q := I.base.tups b xs e
    rw [upd_ne (neH b _ q (fun _ _ z => nomatch z))]; exact q
  · have q := I.base.frzs b o x e
    rw [upd_ne (fun z => by rw [z] at e; exact hn _ _ e)]; exact q
  · obtain ⟨m, q⟩ := I.base.tbls b ps e
    exact ⟨m, by rw [upd_ne (neH b _ q (fun _ _ z => nomatch z))]; exact q⟩
  · rw [upd_ne (neN _ I.free)]; exact I.free
  · rw [upd_ne (neN c (I.freeC x c e))]; exact I.freeC x c e
  · obtain ⟨e, n, r⟩ := I.pin p hp
    exact ⟨e, by rw [upd_ne (neN _ n)]; exact n, r⟩
  · by_cases hb : b = d
    · rw [hb, upd_same] at e
      cases e
      rw [hb]
      obtain ⟨_, x⟩ := I.hok d _ h
      exact x.stay (fun c v _ q => q) (fun c q => by rw [upd_ne (neH c _ q (fun _ _ z => nomatch z))]; exact q) fun c xs q => by rw [upd_ne (neH c _ q (fun _ _ z => nomatch z))]; exact q
    · rw [upd_ne hb] at e
      exact (I.hok b o e).stay (fun c v _ q => q) (fun c q => by rw [upd_ne (neH c _ q (fun _ _ z => nomatch z))]; exact q) fun c xs q => by rw [upd_ne (neH c _ q (fun _ _ z => nomatch z))]; exact q
end
/-- the statement runs while the thing at d is locked (read, not written); d and what stands there are the reading's choice -/
def tLock (t : TS) : TS := fun D σ H => ∃ d u, H d = some u ∧ Mut (some u) ∧ ∀ od, t ⟨fun σ' H' => H' d = some (.frz od u) ∧ D.nx σ' (upd H' d u), fun v H' => H' d = some (.frz od u) ∧ D.rt v (upd H' d u), fun σ' H' => H' d = some (.frz od u) ∧ D.bk σ' (upd H' d u), fun σ' H' => H' d = some (.frz od u) ∧ D.ct σ' (upd H' d u)⟩ σ (upd H d (.frz od u))
def tLockE (t : TE) : TE := fun σ H Q => ∃ d u, H d = some u ∧ Mut (some u) ∧ ∀ od, t σ (upd H d (.frz od u)) fun v H' => H' d = some (.frz od u) ∧ Q v (upd H' d u)
section
variable {X : Cx}
theorem pe_lock {e : Expr} {t : TE} (h : PE X e t) : PE X e (tLockE t) := by
  intro pins s σ H Q I hw
  obtain ⟨d, u, hd, mu, hw⟩ := hw
  obtain ⟨od, I1⟩ := I.lock hd mu
  refine thn (h pins s σ _ _ I1 (hw od)) fun v s1 ⟨x, H1, I2, r, e2, q⟩ => ?_
  exact ⟨x, _, I2.unlock e2 (I.nofrz hd mu), r, q⟩
theorem pi_one {tg : Expr} {pins : List (Addr × Obj)} {σ : St} {H : Hp} {s : Shared} {R : It → Hp → Prop} {J : It} {tn : Nat → Heap → Prop} {tk : Nat} (I : Inv X pins σ H s) (o : Obj)
    (T : Turn X.prog X.w X.K tg J [s.heap.objs.size] s.heap.objs.size tn) (st : tn 0 (s.heap.push o)) (q : R J H) : PIE X pins σ tg R (.ref s.heap.objs.size) { s with heap := s.heap.push o, toks := tk } := by
  refine ⟨s.heap.objs.size, [s.heap.objs.size], tn, J, H, rfl, I.kept fun b ob e => Heap.get?_push_of_some _ e, T, st, fun b hb => ?_, q⟩
  have e : b = s.heap.objs.size := by simpa using hb
  subst e
  exact I.fpOk (Nat.le_refl _) (I.hok.fresh (Nat.le_refl _))
end
/-- lo, lo + c, .. (n of them) -/
def Itc (lo c : Int) (n : Nat) : It := ⟨fun i _ => i < n, fun i H x H' => H' = H ∧ x = .int (lo + (i : Nat) * c), fun i _ => n ≤ i⟩
theorem turn_rangeC {P : Program} {w : World} {K : PySem.W.Frag} {tg : Expr} (it : Addr) (lo c : Int) (n : Nat) : Turn P w K tg (Itc lo c n) [it] it (fun i h => IsRangeIter h it (lo + (i : Nat) * c) ((n : Int) - (i : Nat)) c) where
  mem := by simp
  obj := fun i h st b hb => by
    have e : b = it := by simpa using hb
    subst e
    exact ⟨_, st, fun v z => nomatch z⟩
  keep := fun i h h' st k => k it (by simp) _ st
  item := by
    intro X hP hw hK hc i pins s σ H E I hf st hg
    subst hP hw hK
    obtain ⟨f0, f1, f2, f3, f4, f5⟩ := hf it (by simp)
    have W := Walks.range (prog := X.prog) (w := X.w) (I.ok.hd hc) it lo c n
    refine W.item i s _ _ hg st fun v h' tk hv st' kk => ?_
    obtain ⟨t, rfl⟩ := hv
    have I1 : Inv X pins σ H { s with heap := h', toks := tk } := I.turned (fun b o hb e => kk b o (by simpa using hb) e) f0 f1 f3 f4 f5
    exact ⟨_, rfl, go_of (s := { s with heap := h', toks := tk }) (n := "range_iterator") st' rfl rfl (by decide) ⟨.int (lo + (i : Nat) * c), H, I1, ⟨t, rfl⟩, ⟨rfl, rfl⟩, st', fun b hb => (hf b hb).1⟩⟩
  done := by
    intro X hP hw hK hc i pins s σ H E I hf st hg
    subst hP hw hK
    obtain ⟨f0, f1, f2, f3, f4, f5⟩ := hf it (by simp)
    exact wpAny_pyNext_range_end (I.ok.hd hc) st (by have : n ≤ i := hg; omega) fun h' eb => ⟨rfl, I.turned (t' := s.toks) (fun b o hb e => eb b o hb e) f0 f1 f3 f4 f5⟩
  self := fun A i s Q E st h => wpAny_pyIter_rangeiter st h
/-- range(i, j, c): small bounds, n items -/
def RgC (i j c : Int) (n : Nat) : Prop := c ≠ 0 ∧ c.natAbs < 1073741824 ∧ Builtin.Range.small i j c = true ∧ Builtin.Range.rangeSize i j c = n
theorem RgC.neg {i j : Int} (ha : -(2 ^ 62) ≤ i) (ha' : i < 2 ^ 62) (hb : -(2 ^ 62) ≤ j) (hb' : j < 2 ^ 62) : RgC i j (-1) (i - j).toNat :=
  ⟨by decide, by decide, PySem.W.small_down ha ha' hb hb', PySem.W.rangeSize_downNat i j⟩
def iRng3 (ta : TA) : TI := fun σ H R => ta σ H fun vs H1 => ∃ (i j c : Int) (n : Nat), vs = [.int i, .int j, .int c] ∧ RgC i j c n ∧ R (Itc i c n) H1
section
variable {X : Cx} {tg : Expr}
end
/-- the turns of a step range, for the for loop -/
theorem for_rangeC {lo c : Int} {n : Nat} {g : TG} {tb : TS} {D : Ends} {σ : St} {H : Hp} (Pv : Nat → St → Hp → Prop) (h0 : Pv 0 σ H)
    (hs : ∀ i σ H, i < n → Pv i σ H → g (.int (lo + (i : Nat) * c)) σ H fun σ2 H2 => tb { D with nx := Pv (i + 1), ct := Pv (i + 1), bk := D.nx } σ2 H2) (hd : ∀ σ H, Pv n σ H → D.nx σ H) :
    ∃ W : Nat → Nat → St → Hp → Prop, (∃ m, W 0 m σ H) ∧ ∀ i m σ H, W i m σ H →
      ((Itc lo c n).stop i H ∧ D.nx σ H) ∨ ((Itc lo c n).go i H ∧ ∃ N : St → Hp → Prop, (∀ σ' H', N σ' H' → ∃ m', m' < m ∧ W (i + 1) m' σ' H') ∧ ∀ x H', (Itc lo c n).yld i H x H' → g x σ H' fun σ2 H2 => tb { D with nx := N, ct := N, bk := D.nx } σ2 H2) := by
  refine ⟨fun i m σ H => m = n - i ∧ i ≤ n ∧ Pv i σ H, ⟨n, by simp, Nat.zero_le _, h0⟩, ?_⟩
  rintro i m σ H ⟨rfl, hi, p⟩
  by_cases hlt : i < n
  · refine .inr ⟨hlt, Pv (i + 1), fun σ' H' p' => ⟨n - (i + 1), by omega, rfl, hlt, p'⟩, fun x H' y => ?_⟩
    obtain ⟨e, y⟩ := y
    subst e y
    exact hs i σ _ hlt p
  · have e : i = n := by omega
    subst e
    exact .inl ⟨Nat.le_refl _, hd σ H p⟩
/-- the list at a (n items at the start, which the loop leaves there), from its end -/
def Itv (K : PySem.W.Frag) (a : Addr) (n : Nat) : It :=
  ⟨fun i H => i < n ∧ ∃ (xs : List V) (x : V), SqL K H a xs ∧ xs[n - 1 - i]? = some x, fun i H x H' => H' = H ∧ ∀ xs, SqL K H a xs → xs[n - 1 - i]? = some x, fun i _ => n ≤ i⟩
def iRev (K : PySem.W.Frag) (ta : TA) : TI := fun σ H R => ta σ H fun vs H1 => ∃ (a : Addr) (xs : List V), vs = [.ref a] ∧ SqL K H1 a xs ∧ R (Itv K a xs.length) H1
section
variable {X : Cx} {tg : Expr}
end
def Its (x : Str) : It := ⟨fun i _ => i < x.cps.size, fun i H v H' => H' = H ∧ ∃ c, x.cps[i]? = some c ∧ v = .str ⟨#[c]⟩, fun i _ => x.cps.size ≤ i⟩
def iStr (te : TE) : TI := fun σ H R => te σ H fun v H1 => ∃ x, v = .str x ∧ R (Its x) H1
section
variable {prog : Program} {w : World} {A : Around} {E : Value → Shared → Prop} {s : Shared}
theorem iter_keys {d : Addr} {o : Obj} {es : Array DictEntry} {ep : Nat} {Q : Value → Shared → Prop} (hd : (d == sysModules) = false) (ho : s.heap.get? d = some o) (hc : o.ExactDict) (hdat : o.data = .dict es ep)
    (hQ : Q (.ref s.heap.objs.size) { s with heap := s.heap.push { cls := .type "dict_keyiterator", data := .fields #[.ref d, .int 0 0, .int es.size 0, .int ep 0] } }) :
    wpAny (model prog w) A (pyIter (.ref d)) Q E s := by
  have hT : s.TypeIs (.ref d) "dict" := ⟨o, ho, hc.1⟩
  refine wpAny_pyIter_slot hT F.slot_dict_iter (wpAny_call_entry F.slot_dict_iter hT F.entry_dict_iter ?_ (F.args_dict_iter_1 _))
  unfold Builtin.«dict.__iter__»
  refine wpAny_bind ?_
  unfold Builtin.Dict.dictSlotNone
  refine wpAny_bind (wpAny_notOrdered_dict hT ?_)
  show wpAny _ _ (pure (Value.ref d)) _ _ s
  refine wpAny_pure ?_
  show wpAny _ _ (Builtin.Dict.showsAll d >>= _) _ _ s
  unfold Builtin.Dict.showsAll
  rw [if_neg (by rw [hd]; exact Bool.false_ne_true)]
  refine wpAny_bind (wpAny_pure ?_)
  refine wpAny_bind (wpAny_dictEntries ho hdat ?_)
  refine wpAny_bind (wpAny_dictEpoch ho hdat ?_)
  refine wpAny_bind (wpAny_newObj_type (wpAny_pure ⟨_, rfl, "dict_keyiterator", _, ⟨_, Heap.get?_push_size _ rfl, rfl⟩, F.slot_dict_keyiterator_next.lookup, ?_⟩))
  simpa [rawInt] using hQ
theorem next_key_item {it d : Addr} {i n ep : Nat} {od : Obj} {es : Array DictEntry} {en : DictEntry} {Q : Option Value → Shared → Prop} (hit : s.heap.IsKeyIter it d i n ep) (hod : s.heap.get? d = some od) (hdd : od.data = .dict es ep)
    (hsz : es.size = n) (hx : es[i]? = some en) (hQ : ∀ h', h'.IsKeyIter it d (i + 1) n ep → Heap.SameBut it s.heap h' → Q (some en.key) { s with heap := h' }) : wpAny (model prog w) A (pyNext (.ref it)) Q E s := by
  obtain ⟨o, ho, hc, hd⟩ := id hit
  unfold pyNext
  refine wpAny_bind (wpAny_attempt (wpAny_callSpecial?_slot (name := Str.ofString "__next__") hit.typeIs F.slot_dict_keyiterator_next
    (wpAny_call_entry F.slot_dict_keyiterator_next hit.typeIs F.entry_dict_keyiterator_next ?_ (F.args_dict_keyiterator_next_1 _))))
  refine wpAny_bind (wpAny_pure ?_)
  refine wpAny_bind ?_
  refine wpAny_bind ?_
  first | refine wpAny_bind (wpAny_typeNameOfWhole_keyiter hit.typeIs (wpAny_pure ?_)) | refine wpAny_bind (wpAny_typeNameOf_keyiter hit.typeIs (wpAny_pure ?_))
  refine wpAny_bind (wpAny_fieldsOf ho hd ?_)
  have hown : Builtin.Dict_items.ownsTuple "dict_keyiterator" = false := by decide
  simp only [hown, Bool.false_eq_true, if_false]
  show wpAny _ _ (if (Value.ref d == Value.none) = true then _ else _) _ _ s
  rw [if_neg (show ¬ ((Value.ref d == Value.none) = true) from Bool.false_ne_true)]
  refine wpAny_bind (wpAny_pure ?_)
  refine wpAny_bind (wpAny_dictEntries hod hdd ?_)
  rw [if_neg (by rw [hsz]; simp)]
  refine wpAny_bind (wpAny_pure ?_)
  refine wpAny_bind (wpAny_dictEpoch hod hdd ?_)
  rw [if_neg (by simp)]
  refine wpAny_pure ?_
  obtain ⟨hlt', hen⟩ := Array.getElem?_eq_some_iff.mp hx
  simp only [show ¬ ((i : Int) < 0) from by omega, if_false, Int.toNat_natCast, Array.getElem?_eq_getElem hlt']
  refine wpAny_bind ?_
  first | refine wpAny_bind (wpAny_typeNameOfWhole_keyiter hit.typeIs (wpAny_pure ?_)) | refine wpAny_bind (wpAny_typeNameOf_keyiter hit.typeIs (wpAny_pure ?_))
  refine wpAny_bind (wpAny_isOneOf_keyiter hit.typeIs ?_)
  show wpAny _ _ (setField (.ref it) 1 (rawInt ((i : Int) + 1)) >>= _) _ _ s
  refine wpAny_bind (wpAny_setField ho hd (by simp) ?_)
  have hit' : (s.heap.update it (Obj.mapFields (·.setIfInBounds 1 (rawInt ((i : Int) + 1))))).IsKeyIter it d (i + 1) n ep :=
    ⟨_, Heap.get?_update_self _ ho (Obj.isFreed_of_fields (Obj.data_mapFields hd _)), (Obj.cls_mapFields ..).trans hc, by rw [Obj.data_mapFields hd]; simp [rawInt]⟩
  refine wpAny_bind (wpAny_holding ?_)
  refine wpAny_bind (wpAny_isOneOf_keyiter (s := { s with heap := s.heap.update it (Obj.mapFields (·.setIfInBounds 1 (rawInt ((i : Int) + 1)))) }) hit'.typeIs ?_)
  show wpAny _ _ (pure es[i].key) _ _ _
  rw [hen]
  exact wpAny_pure (wpAny_pure ⟨_, rfl, wpAny_pure (hQ _ hit' (Heap.SameBut.update ..))⟩)
theorem next_key_end {it d : Addr} {i n ep : Nat} {od : Obj} {es : Array DictEntry} {Q : Option Value → Shared → Prop} (hh : A.handled = none) (hit : s.heap.IsKeyIter it d i n ep) (hod : s.heap.get? d = some od) (hdd : od.data = .dict es ep)
    (hsz : es.size = n) (hge : n ≤ i) (hQ : ∀ h', Heap.ExtBut it s.heap h' → Q none { s with heap := h' }) : wpAny (model prog w) A (pyNext (.ref it)) Q E s := by
  obtain ⟨o, ho, hc, hd⟩ := id hit
  unfold pyNext
  refine wpAny_bind (wpAny_attempt (wpAny_callSpecial?_slot (name := Str.ofString "__next__") hit.typeIs F.slot_dict_keyiterator_next
    (wpAny_call_entry F.slot_dict_keyiterator_next hit.typeIs F.entry_dict_keyiterator_next ?_ (F.args_dict_keyiterator_next_1 _))))
  refine wpAny_bind (wpAny_pure ?_)
  refine wpAny_bind ?_
  refine wpAny_bind ?_
  first | refine wpAny_bind (wpAny_typeNameOfWhole_keyiter hit.typeIs (wpAny_pure ?_)) | refine wpAny_bind (wpAny_typeNameOf_keyiter hit.typeIs (wpAny_pure ?_))
  refine wpAny_bind (wpAny_fieldsOf ho hd ?_)
  have hown : Builtin.Dict_items.ownsTuple "dict_keyiterator" = false := by decide
  simp only [hown, Bool.false_eq_true, if_false]
  show wpAny _ _ (if (Value.ref d == Value.none) = true then _ else _) _ _ s
  rw [if_neg (show ¬ ((Value.ref d == Value.none) = true) from Bool.false_ne_true)]
  refine wpAny_bind (wpAny_pure ?_)
  refine wpAny_bind (wpAny_dictEntries hod hdd ?_)
  rw [if_neg (by rw [hsz]; simp)]
  refine wpAny_bind (wpAny_pure ?_)
  refine wpAny_bind (wpAny_dictEpoch hod hdd ?_)
  rw [if_neg (by simp)]
  refine wpAny_pure ?_
  have hge' : es.size ≤ i := by rw [hsz]; exact hge
  simp only [show ¬ ((i : Int) < 0) from by omega, if_false, Int.toNat_natCast, Array.getElem?_eq_none hge']
  refine wpAny_bind ?_
  first | refine wpAny_bind (wpAny_typeNameOfWhole_keyiter hit.typeIs (wpAny_pure ?_)) | refine wpAny_bind (wpAny_typeNameOf_keyiter hit.typeIs (wpAny_pure ?_))
  show wpAny _ _ (setField (.ref it) 0 .none >>= _) _ _ s
  refine wpAny_bind (wpAny_setField ho hd (by simp) ?_)
  show wpAny _ _ (newExc (.type "StopIteration") [] >>= _) _ _ _
  refine wpAny_bind ?_
  simp only [newExc, newTuple]
  refine wpAny_bind (wpAny_newObj_type ?_ (by size_fits))
  refine wpAny_bind (m := firstArgMember _ _) (wpAny_of_eq (a := Value.none) (by first | rfl | (simp only [firstArgMember]; rfl)) ?_)
  refine wpAny_newObj_type ?_ (by size_fits)
  simp only [raiseNew]
  refine wpAny_bind (wpAny_handled ?_)
  rw [show A.in1.handled = none from hh]
  refine wpAny_bind (wpAny_pure (wpAny_throw ?_))
  refine wpAny_bind (wpAny_isInstance (T := "StopIteration") (b := true) ⟨_, Heap.get?_push_size _ rfl, rfl⟩ isSubtype_stop ?_)
  exact wpAny_pure (hQ _ (((Heap.SameBut.update ..).extBut.push _).push _))
end
theorem kv_get {κ : Type} {kvs : List (κ × V)} {vs : List (κ × Value)} (h : KV kvs vs) : ∀ {i : Nat} {k : κ} {v : V}, kvs[i]? = some (k, v) → ∃ u, vs[i]? = some (k, u) ∧ RelV v u := by
  unfold KV at h
  induction h with
  | nil => intro i k v e; simp at e
  | @cons a b l₁ l₂ r t ih =>
    intro i k v e
    cases i with
    | zero =>
      simp only [List.getElem?_cons_zero, Option.some.injEq] at e
      subst e
      refine ⟨b.2, ?_, r.2⟩
      simp only [List.getElem?_cons_zero]
      exact congrArg some (Prod.ext r.1.symm rfl)
    | succ j =>
      simp only [List.getElem?_cons_succ] at e ⊢
      exact ih e
theorem paired_get {α β : Type} {G : α → β → Prop} {l₁ : List α} {l₂ : List β} (h : Paired G l₁ l₂) : ∀ {i : Nat} {a : α}, l₁[i]? = some a → ∃ b, l₂[i]? = some b ∧ G a b := by
  induction h with
  | nil => intro i a e; simp at e
  | @cons a b l₁ l₂ r t ih =>
    intro i a' e
    cases i with
    | zero =>
      simp only [List.getElem?_cons_zero, Option.some.injEq] at e
      subst e
      exact ⟨b, rfl, r⟩
    | succ j =>
      simp only [List.getElem?_cons_succ] at e ⊢
      exact ih e
theorem relV_key {k : Key} {u : Value} (h : keyIs k u = true) : RelV (kV k) u := by
  rcases keyIs_shape h with ⟨i, t, rfl, rfl⟩ | ⟨x, t, rfl, rfl⟩
  · exact ⟨t, rfl⟩
  · exact ⟨t, rfl⟩
section
variable {X : Cx} {pins : List (Addr × Obj)} {σ : St} {H : Hp} {s : Shared} {d : Addr} {o : Obj}
theorem Inv.frzK {kvs : List (Key × V)} (I : Inv X pins σ H s) (h : H d = some (.frz o (.dK kvs))) :
    (d == sysModules) = false ∧ s.heap.get? d = some o ∧ o.ExactDict ∧ ∃ (es : Array DictEntry) (ep : Nat) (vs : List (Key × Value)), o.data = .dict es ep ∧ es.size = kvs.length ∧ KV kvs vs ∧ s.heap.DictAt (mixKind X.prog X.w) d vs ep := by
  obtain ⟨hd, z, hs, vs, kv, o', es, ep, ho, hx, hdt, r⟩ := I.hok d _ h
  rw [hd] at ho
  cases ho
  refine ⟨hs, hd, hx, es, ep, vs, hdt, ?_, kv, o, es, hd, hx, hdt, r⟩
  have l1 := r.2.1.length
  have l2 : kvs.length = vs.length := Paired.length kv
  rw [Array.length_toList] at l1
  omega
/-- the same for tuple keys -/
theorem Inv.frzT {kvs : List (List Key × V)} (I : Inv X pins σ H s) (h : H d = some (.frz o (.dT kvs))) :
    (d == sysModules) = false ∧ s.heap.get? d = some o ∧ o.ExactDict ∧ ∃ (es : Array DictEntry) (ep : Nat), o.data = .dict es ep ∧ es.size = kvs.length ∧
      ∀ (i : Nat) (k : List Key) (v : V), kvs[i]? = some (k, v) → ∃ (en : DictEntry) (q : Addr), es[i]? = some en ∧ en.key = .ref q ∧ H q = some (.tup (k.map kV)) := by
  obtain ⟨hd, z, hs, xs, pr, o', es, ep, ho, hx, hdt, he, _⟩ := I.hok d _ h
  rw [hd] at ho
  cases ho
  refine ⟨hs, hd, hx, es, ep, hdt, ?_, fun i k v e => ?_⟩
  · have l1 : es.size = xs.length := size_of_entries he
    have l2 : kvs.length = xs.length := Paired.length pr
    omega
  · obtain ⟨b, hb, e1, e2, _⟩ := paired_get pr e
    have q := entry_at he i
    rw [hb] at q
    exact ⟨_, b.2.1, q, rfl, e2⟩
end
/-- the keys of the locked dict at d, in their order -/
def Itk (d : Addr) (o : Obj) (kvs : List (Key × V)) : It :=
  ⟨fun i H => H d = some (.frz o (.dK kvs)) ∧ i < kvs.length, fun i H x H' => H' = H ∧ ∃ k v, kvs[i]? = some (k, v) ∧ x = kV k, fun i H => H d = some (.frz o (.dK kvs)) ∧ kvs.length ≤ i⟩
/-- .. of tuple keys: the key's own tuple -/
def Itkt (d : Addr) (o : Obj) (kvs : List (List Key × V)) : It :=
  ⟨fun i H => H d = some (.frz o (.dT kvs)) ∧ i < kvs.length, fun i H x H' => H' = H ∧ ∃ (k : List Key) (v : V) (q : Addr), kvs[i]? = some (k, v) ∧ x = .ref q ∧ H q = some (.tup (k.map kV)), fun i H => H d = some (.frz o (.dT kvs)) ∧ kvs.length ≤ i⟩
/-- the values -/
def Itd (d : Addr) (o : Obj) (kvs : List (Key × V)) : It :=
  ⟨fun i H => H d = some (.frz o (.dK kvs)) ∧ i < kvs.length, fun i H x H' => H' = H ∧ ∃ k, kvs[i]? = some (k, x), fun i H => H d = some (.frz o (.dK kvs)) ∧ kvs.length ≤ i⟩
/-- the pairs, each a new tuple -/
def Iti (d : Addr) (o : Obj) (kvs : List (Key × V)) : It :=
  ⟨fun i H => H d = some (.frz o (.dK kvs)) ∧ i < kvs.length, fun i H x H' => ∃ T k v, kvs[i]? = some (k, v) ∧ x = .ref T ∧ H T = none ∧ H' = upd H T (.tup [kV k, v]), fun i H => H d = some (.frz o (.dK kvs)) ∧ kvs.length ≤ i⟩
theorem dict_ep {o : Obj} {es es' : Array DictEntry} {ep ep' : Nat} (h : o.data = .dict es ep) (h' : o.data = .dict es' ep') : es' = es ∧ ep' = ep := by
  rw [h] at h'
  cases h'
  exact ⟨rfl, rfl⟩
section
variable {P : Program} {w : World} {K : PySem.W.Frag} {tg : Expr} {d : Addr} {o : Obj} {es : Array DictEntry} {ep : Nat}
theorem turn_keys {kvs : List (Key × V)} (it : Addr) (hod : o.data = .dict es ep) : Turn P w K tg (Itk d o kvs) [it] it (fun i h => h.IsKeyIter it d i kvs.length ep) where
  mem := by simp
  obj := fun i h st b hb => by
    have e : b = it := by simpa using hb
    subst e
    obtain ⟨oi, e, c, dd⟩ := st
    exact ⟨oi, e, fun v z => by rw [dd] at z; cases z⟩
  keep := fun i h h' st k => st.at fun oi e => k it (by simp) oi e
  item := by
    intro X hP hw hK hc i pins s σ H E I hf st hg
    subst hP hw hK
    obtain ⟨hd, hi⟩ := hg
    obtain ⟨f0, f1, f2, f3, f4, f5⟩ := hf it (by simp)
    obtain ⟨hs, hgd, hx, es', ep', vs, hdt, hsz, kv, hm⟩ := I.frzK hd
    obtain ⟨rfl, rfl⟩ := dict_ep hod hdt
    obtain ⟨⟨k, v⟩, hkv⟩ : ∃ p, kvs[i]? = some p := ⟨kvs[i], List.getElem?_eq_getElem hi⟩
    obtain ⟨u, hu, ru⟩ := kv_get kv hkv
    have hl : kvs.length = vs.length := Paired.length kv
    rw [hl] at st
    refine wpAny_pyNext_dict_item st hm hu fun key h' hkey st' sb => ?_
    have I1 : Inv X pins σ H { s with heap := h' } := I.turned (t' := s.toks) (fun b ob hb e => (sb.2 b hb).trans e) f0 f1 f3 f4 f5
    obtain ⟨oi, e, c, dd⟩ := id st'
    refine ⟨key, rfl, go_of (s := { s with heap := h' }) e c dd (by decide) ⟨kV k, H, I1, relV_key (show keyIs k key = true from hkey), ⟨rfl, k, v, hkv, rfl⟩, ?_, fun b hb => (hf b hb).1⟩⟩
    show h'.IsKeyIter it d (i + 1) kvs.length _
    rw [hl]
    exact st'
  done := by
    intro X hP hw hK hc i pins s σ H E I hf st hg
    subst hP hw hK
    obtain ⟨hd, hi⟩ := hg
    obtain ⟨f0, f1, f2, f3, f4, f5⟩ := hf it (by simp)
    obtain ⟨hs, hgd, hx, es', ep', vs, hdt, hsz, kv, hm⟩ := I.frzK hd
    obtain ⟨rfl, rfl⟩ := dict_ep hod hdt
    exact next_key_end (I.ok.hd hc) st hgd hdt hsz hi fun h' eb => ⟨rfl, I.turned (t' := s.toks) (fun b ob hb e => eb b ob hb e) f0 f1 f3 f4 f5⟩
  self := fun A i s Q E st h => wpAny_pyIter_keyiter st h
theorem turn_keysT {kvs : List (List Key × V)} (it : Addr) (hod : o.data = .dict es ep) : Turn P w K tg (Itkt d o kvs) [it] it (fun i h => h.IsKeyIter it d i kvs.length ep) where
  mem := by simp
  obj := fun i h st b hb => by
    have e : b = it := by simpa using hb
    subst e
    obtain ⟨oi, e, c, dd⟩ := st
    exact ⟨oi, e, fun v z => by rw [dd] at z; cases z⟩
  keep := fun i h h' st k => st.at fun oi e => k it (by simp) oi e
  item := by
    intro X hP hw hK hc i pins s σ H E I hf st hg
    subst hP hw hK
    obtain ⟨hd, hi⟩ := hg
    obtain ⟨f0, f1, f2, f3, f4, f5⟩ := hf it (by simp)
    obtain ⟨hs, hgd, hx, es', ep', hdt, hsz, ent⟩ := I.frzT hd
    obtain ⟨rfl, rfl⟩ := dict_ep hod hdt
    obtain ⟨⟨k, v⟩, hkv⟩ : ∃ p, kvs[i]? = some p := ⟨kvs[i], List.getElem?_eq_getElem hi⟩
    obtain ⟨en, q, hen, hkey, hq⟩ := ent i k v hkv
    refine next_key_item st hgd hdt hsz hen fun h' st' sb => ?_
    have I1 : Inv X pins σ H { s with heap := h' } := I.turned (t' := s.toks) (fun b ob hb e => (sb.2 b hb).trans e) f0 f1 f3 f4 f5
    obtain ⟨oi, e, c, dd⟩ := id st'
    exact ⟨en.key, rfl, go_of (s := { s with heap := h' }) e c dd (by decide) ⟨.ref q, H, I1, hkey, ⟨rfl, k, v, q, hkv, rfl, hq⟩, st', fun b hb => (hf b hb).1⟩⟩
  done := by
    intro X hP hw hK hc i pins s σ H E I hf st hg
    subst hP hw hK
    obtain ⟨hd, hi⟩ := hg
    obtain ⟨f0, f1, f2, f3, f4, f5⟩ := hf it (by simp)
    obtain ⟨hs, hgd, hx, es', ep', hdt, hsz, ent⟩ := I.frzT hd
    obtain ⟨rfl, rfl⟩ := dict_ep hod hdt
    exact next_key_end (I.ok.hd hc) st hgd hdt hsz hi fun h' eb => ⟨rfl, I.turned (t' := s.toks) (fun b ob hb e => eb b ob hb e) f0 f1 f3 f4 f5⟩
  self := fun A i s Q E st h => by
    refine wpAny_pyIter_slot st.typeIs F.slot_dict_keyiterator_iter (wpAny_call_entry F.slot_dict_keyiterator_iter st.typeIs F.entry_dict_keyiterator_iter ?_ (F.args_dict_keyiterator_iter_1 _))
    show wpAny _ _ (ret (.ref it)) _ _ s
    exact wpAny_pure ⟨_, rfl, "dict_keyiterator", _, st.typeIs, F.slot_dict_keyiterator_next.lookup, h⟩
end
/-- the dict is locked (tLock, or by the caller) -/
def iKeys (td : TE) : TI := fun σ H R => td σ H fun x H1 => ∃ d o, x = .ref d ∧ ((∃ kvs, H1 d = some (.frz o (.dK kvs)) ∧ R (Itk d o kvs) H1) ∨ ∃ kvs, H1 d = some (.frz o (.dT kvs)) ∧ R (Itkt d o kvs) H1)
def iVals (td : TE) : TI := fun σ H R => td σ H fun x H1 => ∃ d o kvs, x = .ref d ∧ H1 d = some (.frz o (.dK kvs)) ∧ R (Itd d o kvs) H1
def iItems (td : TE) : TI := fun σ H R => td σ H fun x H1 => ∃ d o kvs, x = .ref d ∧ H1 d = some (.frz o (.dK kvs)) ∧ R (Iti d o kvs) H1
def iKeysM (td : TE) : TI := fun σ H R => td σ H fun x H1 => ∃ d o kvs, x = .ref d ∧ H1 d = some (.frz o (.dK kvs)) ∧ R (Itk d o kvs) H1
section
variable {X : Cx} {tg e : Expr} {td : TE} {apos cpos : Pos}
theorem pi_keys (he : PE X e td) : PI X tg e (iKeys td) := by
  intro pins s σ H R I h
  refine thn (he pins s σ H _ I h) fun u s1 ⟨x, H1, I1, rx, d, o, ex, q⟩ => ?_
  subst ex
  obtain rfl : u = Value.ref d := rx
  rcases q with ⟨kvs, hd, q⟩ | ⟨kvs, hd, q⟩
  · obtain ⟨hs, hgd, hx, es, ep, vs, hdt, hsz, kv, hm⟩ := I1.frzK hd
    refine iter_keys hs hgd hx hdt (pi_one (tk := s1.toks) I1 _ (turn_keys _ hdt) ⟨_, Heap.get?_push_size _ rfl, rfl, ?_⟩ q)
    rw [hsz] <;> rfl
  · obtain ⟨hs, hgd, hx, es, ep, hdt, hsz, ent⟩ := I1.frzT hd
    refine iter_keys hs hgd hx hdt (pi_one (tk := s1.toks) I1 _ (turn_keysT _ hdt) ⟨_, Heap.get?_push_size _ rfl, rfl, ?_⟩ q)
    rw [hsz] <;> rfl
end
/-- the list at a as it stands at each turn, each item in a new pair -/
def Ite (K : PySem.W.Frag) (a : Addr) : It :=
  ⟨fun i H => ∃ (xs : List V) (x : V), SqL K H a xs ∧ xs[i]? = some x, fun i H v H' => ∃ T x, v = .ref T ∧ H T = none ∧ H' = upd H T (.tup [.int (i : Nat), x]) ∧ ∀ xs, SqL K H a xs → xs[i]? = some x, fun i H => ∃ xs : List V, SqL K H a xs ∧ xs.length ≤ i⟩
def iEnum (K : PySem.W.Frag) (ta : TA) : TI := fun σ H R => ta σ H fun vs H1 => ∃ a xs, vs = [.ref a] ∧ SqL K H1 a xs ∧ R (Ite K a) H1
/-- the lists at a and b as they stand at each turn, the items in new pairs -/
def Itz (K : PySem.W.Frag) (a b : Addr) : It :=
  ⟨fun i H => ∃ (xs ys : List V) (x y : V), SqL K H a xs ∧ SqL K H b ys ∧ xs[i]? = some x ∧ ys[i]? = some y,
    fun i H v H' => ∃ T x y, v = .ref T ∧ H T = none ∧ H' = upd H T (.tup [x, y]) ∧ (∀ xs, SqL K H a xs → xs[i]? = some x) ∧ ∀ ys, SqL K H b ys → ys[i]? = some y,
    fun i H => ∃ xs ys : List V, SqL K H a xs ∧ SqL K H b ys ∧ (xs.length ≤ i ∨ ys.length ≤ i)⟩
def iZip (K : PySem.W.Frag) (ta : TA) : TI := fun σ H R => ta σ H fun vs H1 => ∃ a b xs ys, vs = [.ref a, .ref b] ∧ SqL K H1 a xs ∧ SqL K H1 b ys ∧ R (Itz K a b) H1
end L2
section 
namespace Bits
open PySem PyProof.Rows
end Bits
end 
section 
namespace TL
open PySem PySem.Builtin PySem.Builtin.Str PySem.StrLaws
abbrev tl (x : Str) : List Nat := x.cps.toList
/-- S stands at the head of l -/
def pre (S l : List Nat) : Bool := l.take S.length == S
/-- l cut at each S from the left; k signs are still to be passed over -/
def spl (S : List Nat) : Nat → List Nat → List Nat → List (List Nat)
  | _, acc, [] => [acc]
  | 0, acc, c :: r => if pre S (c :: r) = true then acc :: spl S (S.length - 1) [] r else spl S 0 (acc ++ [c]) r
  | k + 1, acc, _ :: r => spl S k acc r
/-- what stands before the first S, and behind it -/
def par (S : List Nat) : List Nat → List Nat → Option (List Nat × List Nat)
  | _, [] => none
  | acc, c :: r => if pre S (c :: r) = true then some (acc, (c :: r).drop S.length) else par S (acc ++ [c]) r
/-- joined lists -/
def joinL (S : List Nat) : List (List Nat) → List Nat
  | [] => []
  | [p] => p
  | p :: q :: r => p ++ (S ++ joinL S (q :: r))
theorem join_eq (y : Str) (parts : List Str) : Txt.join y parts = Str.join y parts := glued_eq_join y parts
/-- the signs of a number -/
def numL (n : Nat) : List Nat := (Nat.toDigits 10 n).map Char.toNat
def wstep (st : List (List Nat) × List Nat) (c : Nat) : List (List Nat) × List Nat :=
  if Unicode.isSpace c = true then (if st.2 = [] then st else (st.1 ++ [st.2], [])) else (st.1, st.2 ++ [c])
def wfin (st : List (List Nat) × List Nat) : List (List Nat) := if st.2 = [] then st.1 else st.1 ++ [st.2]
end TL
end 
namespace L2
open PySem PySem.Spec PyProof.Rows
theorem strs_of_vals : ∀ {ys : List Str} {us : List Value}, Vals (ys.map V.str) us → StrsAre us ys
  | [], _, .nil => .nil
  | y :: ys, _, .cons r t => by
    obtain ⟨k, rfl⟩ := r
    exact .cons y k (strs_of_vals t)
/-- a new list of texts, tracked -/
def rNewStrs (ys : List Str) : Hp → VK → Prop := fun H Q => ∀ p, H p = none → Q (.ref p) (upd H p (.lst (ys.map V.str)))
section
variable {X : Cx} {pins : List (Addr × Obj)} {σ : St} {H : Hp} {s : Shared} {Q : VK}
end
section
variable {X : Cx}
/-- sep.join(a list | a tuple of texts) -/
theorem mt_join : MtR X "str.join" (fun x xs H Q => ∃ a p, ∃ ys : List Str, x = .str a ∧ xs = [.ref p] ∧ (SqL X.K H p (ys.map V.str) ∨ SqT X.K H p (ys.map V.str)) ∧
    (ys.map (·.length)).sum + ys.length * a.length ≤ 16777216 ∧ Q (.str (Txt.join a ys)) H) := by
  intro pins s σ H x xs v us Q I rx rs h
  obtain ⟨a, p, ys, rfl, rfl, hp, hz, h⟩ := h
  obtain ⟨t, rfl⟩ := rx
  cases rs with
  | cons r1 rs =>
    cases rs
    cases r1
    rcases hp with hp | hp
    · obtain ⟨its, r, ⟨o, n, ho, hc, _, hd⟩, _⟩ := I.list hp
      exact PyProof.Rows.join_list (items := its.toArray) ⟨o, ho, hc, n, hd⟩ (by rw [List.toList_toArray]; exact strs_of_vals r) hz fun t' k => ⟨.str _, H, I.tok k, ⟨t', rfl⟩, h⟩
    · obtain ⟨its, r, ht, _⟩ := I.tuple hp
      exact PyProof.Rows.join_tuple (items := its.toArray) ht (by rw [List.toList_toArray]; exact strs_of_vals r) hz fun t' k => ⟨.str _, H, I.tok k, ⟨t', rfl⟩, h⟩
end
section
variable {X : Cx} {o e : Expr} {to te : TE}
def tM0 (r : V → List V → Hp → VK → Prop) (to : TE) : TE := fun σ H Q => to σ H fun x H1 => (∃ a, x = .str a) ∧ r x [] H1 Q
def tM1 (r : V → List V → Hp → VK → Prop) (to te : TE) : TE := fun σ H Q => to σ H fun x H1 => (∃ a, x = .str a) ∧ te σ H1 fun y H2 => r x [y] H2 Q
theorem pe_m1 {id : String} {name : Str} {apos pos : Pos} {r : V → List V → Hp → VK → Prop} (slot : Slot "str" name id) (ty : typeOf (.builtin id) = pure (.type "method_descriptor")) (rule : MtR X id r) (ho : PE X o to) (he : PE X e te)
    (hs : starEach [e] X.env = [(false, eval e X.env)] := by rfl) (hbase : attributeBase o name X.env (eval o X.env) = eval o X.env := by rfl) (hline : (apos.endLine == pos.line) = true := by rfl) :
    PE X (.Call (.Attribute o name apos) [e] [] pos) (tM1 r to te) := by
  intro pins s σ H Q I h
  refine PySem.Call_method1 hbase hs hline (thn (ho pins s σ H _ I h) fun v s1 ⟨x, H1, I1, r1, q1⟩ => ?_)
  obtain ⟨⟨a, rfl⟩, q1⟩ := q1
  obtain ⟨t, rfl⟩ := _root_.id r1
  refine ⟨"str", _, F.plainAttrs_str, slot, ty, typeIs_str _ _ _, (fun _ e => nomatch e), Calls.callWith_builtin rfl (Calls.evalArgs_plain (Calls.spliced_cons ?_))⟩
  exact thn (he pins s1 σ H1 _ I1 q1) fun u s2 ⟨y, H2, I2, r2, q2⟩ => Calls.spliced_nil (rule pins s2 σ H2 _ [y] _ [u] Q I2 r1 (.cons r2 .nil) q2)
theorem pe_join {apos pos : Pos} (ho : PE X o to) (he : PE X e te) (hs : starEach [e] X.env = [(false, eval e X.env)] := by rfl) (hbase : attributeBase o "join" X.env (eval o X.env) = eval o X.env := by rfl) (hline : (apos.endLine == pos.line) = true := by rfl) :
    PE X (.Call (.Attribute o "join" apos) [e] [] pos) (tM1 (fun x xs H Q => ∃ a p, ∃ ys : List Str, x = .str a ∧ xs = [.ref p] ∧ (SqL X.K H p (ys.map V.str) ∨ SqT X.K H p (ys.map V.str)) ∧
      (ys.map (·.length)).sum + ys.length * a.length ≤ 16777216 ∧ Q (.str (Txt.join a ys)) H) to te) :=
  pe_m1 F.slot_str_join F.type_str_join mt_join ho he hs hbase hline
end
end L2
namespace L2
open PySem PySem.Spec PyProof.Rows
section
variable {X : Cx}
end
theorem IsPart.raw {v : Value} {o : Option Int} (p : IsPart v o) : ∃ l : Option (Int × Tok), v = partValue l ∧ l.map (·.1) = o := by
  cases p with
  | none => exact ⟨none, rfl, rfl⟩
  | int i t => exact ⟨some (i, t), rfl, rfl⟩
/-- a part, clipped, as the text's slice reckons it -/
def clipS (n d : Nat) : Option Int → Int
  | none => (d : Int)
  | some i => max 0 (min (if i < 0 then i + (n : Int) else i) (n : Int))
theorem clipS_eq (n d : Nat) (o : Option Int) : clipS n d o = ((HT.sIx n d o : Nat) : Int) := by
  cases o with
  | none => rfl
  | some v =>
    show max (0 : Int) (min (if v < 0 then v + (n : Int) else v) (n : Int)) = (((if v < 0 then (v + (n : Int)).toNat else min v.toNat n) : Nat) : Int)
    by_cases hv : v < 0
    · simp only [if_pos hv]
      omega
    · simp only [if_neg hv]
      omega
theorem sidx_clip (a b : Option Int) (n : Nat) : Builtin.Str.strSliceIndices a b 1 n = sliceRange (clipS n 0 a) (clipS n n b) 1 := by
  have h1 : ((1 : Int) > 0) = True := by simp
  cases a <;> cases b <;> first
    | rfl
    | (simp only [Builtin.Str.strSliceIndices, clipS, h1, if_true]; rfl)
    | simp [Builtin.Str.strSliceIndices, clipS]
theorem sidx (a b : Option Int) (n : Nat) : Builtin.Str.strSliceIndices a b 1 n = (List.range (HT.sIx n n b - HT.sIx n 0 a)).map (fun k => HT.sIx n 0 a + k) := by
  rw [sidx_clip, clipS_eq, clipS_eq]
  generalize HT.sIx n 0 a = p
  generalize HT.sIx n n b = q
  simp only [sliceRange, show ((1 : Int) > 0) = True from by simp, if_true]
  by_cases hlt : (p : Int) < q
  · have e3 : (((q : Int) - p + 1 - 1) / 1).toNat = q - p := by first | omega | (simp; done) | (simp; omega)
    simp only [hlt, if_true, e3]
    refine List.map_congr_left fun k _ => ?_
    omega
  · have : q - p = 0 := by omega
    simp [hlt, this]
/-- z[lo:hi] -/
def cutS (z : Str) (lo hi : Option Int) : Str :=
  ⟨((z.cps.toList.drop (HT.sIx z.length 0 lo)).take (HT.sIx z.length z.length hi - HT.sIx z.length 0 lo)).toArray⟩
theorem sliceText_cut (z : Str) (lo hi : Option Int) : PySem.StrLaws.sliceText z lo hi = cutS z lo hi := by
  have h1 : HT.sIx z.length 0 lo ≤ z.length := HT.sIx_le _ _ (Nat.zero_le _) _
  have h2 : HT.sIx z.length z.length hi ≤ z.length := HT.sIx_le _ _ (Nat.le_refl _) _
  have hp : HT.sIx z.length 0 lo ≤ max (HT.sIx z.length 0 lo) (HT.sIx z.length z.length hi) := Nat.le_max_left _ _
  have hq : max (HT.sIx z.length 0 lo) (HT.sIx z.length z.length hi) ≤ z.length := Nat.max_le.mpr ⟨h1, h2⟩
  have hd : max (HT.sIx z.length 0 lo) (HT.sIx z.length z.length hi) - HT.sIx z.length 0 lo = HT.sIx z.length z.length hi - HT.sIx z.length 0 lo := by omega
  have e : Builtin.Str.strSliceIndices lo hi 1 z.length =
      Builtin.Str.strSliceIndices (some ((HT.sIx z.length 0 lo : Nat) : Int)) (some ((max (HT.sIx z.length 0 lo) (HT.sIx z.length z.length hi) : Nat) : Int)) 1 z.length := by
    rw [PySem.StrLaws.strSliceIndices_plain hp hq, hd, sidx]
  have e2 : PySem.StrLaws.sliceText z lo hi =
      PySem.StrLaws.sliceText z (some ((HT.sIx z.length 0 lo : Nat) : Int)) (some ((max (HT.sIx z.length 0 lo) (HT.sIx z.length z.length hi) : Nat) : Int)) := by
    unfold PySem.StrLaws.sliceText
    rw [e]
  rw [e2, PySem.StrLaws.sliceText_nat z hp hq, hd]
  rfl
theorem cutS_length (z : Str) (lo hi : Option Int) : (cutS z lo hi).length ≤ z.length := by
  show (((z.cps.toList.drop (HT.sIx z.length 0 lo)).take (HT.sIx z.length z.length hi - HT.sIx z.length 0 lo)).toArray).size ≤ z.cps.size
  rw [List.size_toArray, List.length_take, List.length_drop, Array.length_toList]
  omega
def rSlS : V → Option Int → Option Int → Hp → VK → Prop := fun x lo hi H Q => ∃ z, x = .str z ∧ z.length ≤ sizeLine ∧ Q (.str (cutS z lo hi)) H
theorem sl_str {X : Cx} : SlR X rSlS := by
  intro pins s σ H x v vl vu lo hi sl Q I rx hs pl pu h
  obtain ⟨z, rfl, hz, q⟩ := h
  obtain ⟨t, rfl⟩ := rx
  obtain ⟨os, hos, hcs, hds⟩ := hs
  obtain ⟨l, rfl, rfl⟩ := IsPart.raw pl
  obtain ⟨u, rfl, rfl⟩ := IsPart.raw pu
  refine ⟨"str", _, F.slot_str_getitem.lookup, typeIs_str _ _ _, ?_⟩
  refine wpAny_getItem_str_slice (l := l) (u := u) (st := none) ⟨os, hos, hcs, hds⟩ rfl ?_
  have hl : (PySem.StrLaws.sliceText z (l.map (·.1)) (u.map (·.1))).length ≤ sizeLine := by
    rw [sliceText_cut]
    exact Nat.le_trans (cutS_length z _ _) hz
  rw [← sliceText_cut] at q
  unfold PySem.StrLaws.sliceText at q hl
  show Made.post (if ((1 : Int) == 1 && (Builtin.Str.strSliceIndices (l.map (·.1)) (u.map (·.1)) 1 z.length).length == z.length) = true then Made.val (.str z t)
    else Made.str ⟨((Builtin.Str.strSliceIndices (l.map (·.1)) (u.map (·.1)) 1 z.length).filterMap (z.cps[·]?)).toArray⟩) (EP X pins σ Q) s
  by_cases c : ((1 : Int) == 1 && (Builtin.Str.strSliceIndices (l.map (·.1)) (u.map (·.1)) 1 z.length).length == z.length) = true
  · rw [if_pos c] at q ⊢
    exact ⟨.str z, H, I, ⟨t, rfl⟩, q⟩
  · rw [if_neg c] at q hl ⊢
    exact ⟨hl, .str _, H, I.tok _, ⟨_, rfl⟩, q⟩
end L2
namespace Att
open PySem PySem.W PySem.Calls PyProof.Rows
theorem ints_of_wellAll {P : Params} {h : Heap} : ∀ (ns : List Int) (vs : List Value), WellAll P h vs (ns.map WData.int) → IntsAre vs ns := by
  intro ns
  induction ns with
  | nil =>
    intro vs w
    rw [List.map_nil] at w
    cases w
    exact .nil
  | cons n ns ih =>
    intro vs w
    rw [List.map_cons] at w
    cases w with
    | cons a b =>
      cases a
      exact .cons _ _ (ih _ b)
theorem script_of {l : OpenLaw} {n : Nat} (hn : l.most = some n) {P : Params} {h : Heap} {args : List WData} {vals : List Value}
    (hpre : l.row.toRowW.claim.pre args = true) (hwl : WellAll P h vals args) :
    ∃ a vs ns, vals = [Value.ref a] ∧ args = [WData.list (ns.map WData.int)] ∧ h.get? a = some { cls := .type "list", data := .seq vs.toArray } ∧ IntsAre vs ns ∧ ns.length ≤ n := by
  have hsh : WShape.hasAll [] args [.list .int] = true := (pre_splitW hpre).1
  have hc : l.pre.holds [] { args := args } = true := (pre_splitW hpre).2
  obtain ⟨d, r, rfl, h1, h2⟩ := hasAllW_cons hsh
  obtain rfl := hasAllW_nil h2
  obtain ⟨xs, rfl, h3⟩ := hasW_list h1
  obtain ⟨ns, rfl⟩ := items_int h3
  have hlen : ns.length ≤ n := by
    unfold OpenLaw.pre at hc
    have h4 : (WTm.not (.lt (.lit (.int (n : Int))) (.len (.arg 0)))).holds [] { args := [.list (ns.map .int)] } = true := by
      have h4 := (holds_andW hc).1
      rw [hn] at h4
      exact h4
    have h5 := condW_of h4 (w_not (w_lt w_lit (w_len_list (w_arg rfl))))
    rw [List.length_map] at h5
    refine Nat.le_of_not_lt fun q => ?_
    have q' : (n : Int) < ((ns.length : Nat) : Int) := by omega
    first
      | (rw [decide_eq_true q'] at h5; exact absurd h5 (by decide))
      | (simp at h5; omega)
  cases hwl with
  | cons w1 w2 =>
    cases w2
    cases w1 with
    | list ho hall => exact ⟨_, _, ns, rfl, rfl, ho, ints_of_wellAll ns _ hall, hlen⟩
theorem post_true (l : OpenLaw) (args : List WData) : l.row.toRowW.claim.post args (.bool true) args = true :=
  postW_of (r := l.row.toRowW) (X := (true == true))
    (show WShape.has [] (.bool true) .bool = true by first | rfl | decide | simp [WShape.has, WShape.arms, WShape.armsAll])
    (show (WTm.eq .res (.lit (.bool true))).value [] { args := args, res := some (.bool true), after := args } = some (.bool (true == true)) from w_eq_bool (w_res rfl) w_lit) rfl
/-- the same from a codeAny of the CALL (for a layer whose function contracts speak of calls) -/
theorem attach_call {l : OpenLaw} {n : Nat} {q : Program} {loose : List Str} {XP : (Str → Option Value) → Heap → Prop} {YP : World → Heap → Prop} {d : DefRec}
    (hn : l.most = some n) (hdf : d.params.defaults = [])
    (call : ∀ (w : World) (s₀ s₁ : Shared) (mg mb : Str → Option Value) (fa : Addr) (o : Obj) (pm cd doc : Value) (a : Addr) (vs : List Value) (ns : List Int),
      Ground q loose [] XP w s₀ mg mb s₁.heap → YP w s₁.heap →
      s₁.heap.get? fa = some o → o.data = .func (docDef d.name d.params d.body d.scope pm cd doc) → s₁.heap.CodeRec cd d.name → mg d.name = some (.ref fa) →
      s₁.heap.get? a = some { cls := .type "list", data := .seq vs.toArray } → IntsAre vs ns → ns.length ≤ n → s₁.gens = #[] →
      codeAny (model l.prog w) callerA (.call (.ref fa) ⟨[.ref a], []⟩) (fun r s' => r = .ok (.ret (.bool true)) ∧ OldK s₁.heap s'.heap ∧ s'.os = s₁.os ∧ AllBare s'.gens) s₁) :
    WalkO q loose XP YP l.row.toRowW d [] (fun f vs => PySem.call f vs) := by
  intro w s₀ s₁ mg mb G Y fa o pm cd doc dV kV ho hd hcd hD hmg hg args vals as hpre hlay hrd hwl hlo
  obtain rfl : dV = .none := Dflts.none hD hdf
  obtain rfl : kV = .none := Dflts.noKw hD
  obtain ⟨a, vs, ns, rfl, rfl, hobj, hints, hlen⟩ := script_of hn hpre hwl
  refine enter_call (codeAny_mono (call w s₀ s₁ mg mb fa o pm cd doc a vs ns G Y ho (fd_plain hd) hcd hmg hobj hints hlen hg) fun r s' hq => ?_)
  obtain ⟨rfl, h2, h3, h4⟩ := hq
  exact ⟨.inl ⟨.bool true, .bool true, [], rfl, fun _ => rfl, .bool true, post_true l _, fun _ => ⟨List.Pairwise.nil, fun _ hm => (nomatch hm)⟩⟩, h2, h3, h4⟩
section
variable {prog : Program} {w : World} {A : Around} {E : Value → Shared → Prop} {s : Shared} {K : Frag}
def noObjs (h : Heap) : Heap := { h with objs := #[] }
def ledger (h : Heap) (L d : Addr) : List (Addr × Obj) := (List.range h.objs.size).filterMap fun a => if a = L ∨ a = d then none else (h.get? a).map fun o => (a, o)
end
end Att
namespace L2
open PySem PySem.Spec PyProof.Rows
theorem vals_ints : ∀ {vs : List Value} {ns : List Int}, IntsAre vs ns → Vals (ns.map V.int) vs
  | _, _, .nil => .nil
  | _, _, .cons n t h => .cons ⟨t, rfl⟩ (vals_ints h)
/-- nothing is tracked but the script, known to the object (or it is an object of the module) -/
def Only (H : Hp) : Prop := ∀ b, H b = none ∨ ∃ o xs, H b = some (.frz o (.lst xs))
/-- THE HEAD: the law's promise, at the heap behind the top. F, the promise of the law's def, may use that base is part of the heap (so K.In base, base.Ns mainGlobals mg stand in Mod) -/
theorem law_call {P : Program} {w : World} {K : PySem.W.Frag} {mg mb : Str → Option Value} {CX : CXT} {k : Nat} {fa a : Addr} {fd : FuncData} {x : Str} {sp : Sp} {s₁ : Shared} {vs : List Value} {ns : List Int}
    (KX : K.In s₁.heap) (hns : s₁.heap.Ns mainGlobals mg) (hb : s₁.heap.Ns builtinsNs mb) (hbb : ∀ x : Str, x ≠ "__name__" → mb x = bootBuiltins x) (hlim : s₁.heap.NoLimit) (hg : s₁.gens = #[])
    (ha : s₁.heap.get? a = some { cls := .type "list", data := .seq vs.toArray }) (hi : IntsAre vs ns) (hl : ns.length ≤ sizeLine) (hr : Room k callerA)
    (F : ∀ base : Heap, K.In base → base.Ns mainGlobals mg → FnOk P w K mg base CX k fa fd [x] sp) (hbind : ∀ (s : Shared) (u : Value), BindsTo s fd ⟨[u], []⟩ [(x, u)])
    (hsp : ∀ H : Hp, Only H → SqL K H a (ns.map V.int) → sp [.ref a] H (fun v _ => v = .bl true) fun _ _ _ => False)
    (hCX : ∀ H e s', CX [] H s₁ (fun _ _ _ => False) e s' → False) :
    codeAny (model P w) callerA (.call (.ref fa) ⟨[.ref a], []⟩) (fun r s' => r = .ok (.ret (.bool true)) ∧ OldK s₁.heap s'.heap ∧ s'.os = s₁.os ∧ AllBare s'.gens) s₁ := by
  have rv := vals_ints hi
  have lenV := hi.length
  -- from an abstract heap in which nothing but the script may be tracked
  have core : ∀ H : Hp, Only H → SqL K H a (ns.map V.int) → HOk P w H s₁.heap → (∀ b, H b ≠ none → b = a) → (H a ≠ none → K.lookup a = none) →
      codeAny (model P w) callerA (.call (.ref fa) ⟨[.ref a], []⟩) (fun r s' => r = .ok (.ret (.bool true)) ∧ OldK s₁.heap s'.heap ∧ s'.os = s₁.os ∧ AllBare s'.gens) s₁ := by
    intro H hO hS hok hA hK
    have base_of : ∀ {b : Addr} {o : Obj}, s₁.heap.get? b = some o → H b = none → (hidT s₁.heap H).get? b = some o := fun e n => hidT_get e n
    have noA : ∀ {b : Addr} {o : Obj} {es : Array DictEntry} {ep : Nat}, s₁.heap.get? b = some o → o.data = .dict es ep → H b = none := fun {b o es ep} e d => by
      cases q : H b with
      | none => rfl
      | some u =>
        have e' : b = a := hA b (by rw [q]; simp)
        subst e'
        rw [ha] at e; cases e
        have d' : Data.seq vs.toArray _ = Data.dict es ep := d
        cases d'
    have nsK : ∀ {b : Addr} {m : Str → Option Value}, s₁.heap.Ns b m → (hidT s₁.heap H).Ns b m := fun {b m} ⟨o, es, ep, e, d, r⟩ => ⟨o, es, ep, base_of e (noA e d), d, r⟩
    have hKb : K.In (hidT s₁.heap H) := fun b o e => base_of (KX b o e) (by
      cases q : H b with
      | none => rfl
      | some u =>
        have e' : b = a := hA b (by rw [q]; simp)
        subst e'
        rw [hK (by rw [q]; simp)] at e; cases e)
    have hM : Mod K mg (hidT s₁.heap H) := ⟨hKb, nsK hns, ⟨mb, nsK hb, hbb⟩, let ⟨mc, h1, h2⟩ := hlim; ⟨mc, nsK h1, h2⟩⟩
    have e0 : Env0 P w K mg (hidT s₁.heap H) callerA [] s₁ H := ⟨rfl, hM, fun b o e => of_hidT e, Nat.le_of_eq (hidT_size _ _), trivial, fun b hb => absurd (show b ∈ ([] : List Addr) from hb) (by simp), hok, .of_eq hg⟩
    refine codeAny_mono ((F _ hKb (nsK hns)).run callerA [] s₁ H ⟨[.ref a], []⟩ [.ref a] [.ref a] _ _ hr e0 (hbind s₁ (.ref a)) (.cons rfl .nil) (hsp H hO hS)) fun r s' h => ?_
    cases r with
    | error e => exact (hCX H e s' h).elim
    | ok fl =>
      cases fl with
      | next => exact False.elim h
      | brk => exact False.elim h
      | cont => exact False.elim h
      | ret u =>
        obtain ⟨v, H', os, bare, un, hok', r', q⟩ := h
        have q' : v = .bl true := q
        subst q'
        obtain rfl : u = Value.bool true := r'
        refine ⟨rfl, OldK.of_keep fun b o e => ?_, os, bare⟩
        cases q : H b with
        | none => exact un.keep b o e q (by intro z; exact absurd (show b ∈ ([] : List Addr) from z) (by simp)) (by simp)
        | some u =>
          rcases hO b with z | ⟨ob, xs, z⟩
          · rw [q] at z; cases z
          · have z2 := un.frzs b ob _ z
            obtain ⟨e1, _⟩ := hok b _ z
            obtain ⟨e2, _⟩ := hok' b _ z2
            rw [e] at e1; cases e1
            exact e2
  cases hk : K.lookup a with
  | some o =>
    -- the script is one of the module's own objects
    have e := KX a o hk
    rw [ha] at e
    cases e
    refine core (fun _ => none) (fun _ => .inl rfl) (.inr ⟨_, vs.toArray, _, hk, rfl, rfl, rfl, by rw [List.size_toArray, lenV]; exact hl, by simpa using rv⟩) (fun b u z => by have z' : (none : Option HO) = some u := z; cases z') (fun b z => absurd rfl z) fun z => absurd rfl z
  | none =>
    refine core (fun b => if b = a then some (.frz { cls := .type "list", data := .seq vs.toArray } (.lst (ns.map V.int))) else none) (fun b => ?_) (.inl (.inr ⟨{ cls := .type "list", data := .seq vs.toArray }, if_pos rfl⟩)) (fun b u z => ?_) (fun b z => ?_) fun _ => hk
    · by_cases hb : b = a
      · exact .inr ⟨_, _, if_pos hb⟩
      · exact .inl (if_neg hb)
    · by_cases hb : b = a
      · have z' := (if_pos hb).symm.trans z
        cases z'
        subst hb
        exact ⟨ha, by rw [List.length_map]; exact hl, vs, _, rv, ha⟩
      · have z' := (if_neg hb).symm.trans z
        cases z'
    · by_cases hb : b = a
      · exact hb
      · exact absurd (if_neg hb) z
end L2
namespace L2
open PySem PySem.Spec PyProof.Rows
abbrev KOf {K : PySem.W.Frag} {h : Heap} (_ : K.In h) : PySem.W.Frag := K
/-- the goal that k_head leaves (case hc), from the law's promise. F gives the function object fd (K's own) once, then the promise over every base -/
theorem walk_of {l : PySem.W.OpenLaw} {n k : Nat} {q : Program} {loose : List Str} {XP : (Str → Option Value) → Heap → Prop} {YP : World → Heap → Prop} {d : DefRec} {K : Params → PySem.W.Frag} {CX : World → CXT} {sp : World → Sp} {x : Str}
    (hn : l.most = some n) (hn2 : n ≤ sizeLine) (hdf : d.params.defaults = []) (hr : Room k callerA)
    (hY : ∀ (w : World) (h : Heap), YP w h → (K w.params).In h)
    (F : ∀ (w : World) (mg : Str → Option Value) (fa : Addr) (h : Heap), (K w.params).In h → h.Ns mainGlobals mg → mg d.name = some (.ref fa) →
      ∃ fd : FuncData, (∀ (s : Shared) (u : Value), BindsTo s fd ⟨[u], []⟩ [(x, u)]) ∧
        ∀ base : Heap, (K w.params).In base → base.Ns mainGlobals mg → FnOk l.prog w (K w.params) mg base (CX w) k fa fd [x] (sp w))
    (hsp : ∀ (w : World) (H : Hp) (a : Addr) (ns : List Int), ns.length ≤ n → Only H → SqL (K w.params) H a (ns.map V.int) → sp w [.ref a] H (fun v _ => v = .bl true) fun _ _ _ => False)
    (hCX : ∀ (w : World) (H : Hp) (s : Shared) (e : Value) (s' : Shared), CX w [] H s (fun _ _ _ => False) e s' → False) :
    PySem.W.WalkO q loose XP YP l.row.toRowW d [] (fun f vs => PySem.call f vs) := by
  refine Att.attach_call hn hdf fun w s₀ s₁ mg mb fa o pm cd doc a vs ns G Y ho hd hcd hmg hobj hints hlen hg => ?_
  have KX := hY w _ Y
  obtain ⟨fd, hb, hF⟩ := F w mg fa _ KX G.T.g hmg
  exact law_call KX G.T.g G.T.b G.T.builtins G.T.nolimit hg hobj hints (Nat.le_trans hlen hn2) hr hF hb (fun H hO hS => hsp w H a ns hlen hO hS) fun H e s' => hCX w H s₁ e s'
end L2
/- THE LAST THEOREM (shape; LID, My.* are yours):
   My.Adr: a structure of the addresses that your layer names (classes, functions); My.Txt K t: a structure (Prop) of the equations over K;
   My.txt_mk : {K} {implicit addresses ..} (e1 : nsIn K mainGlobals "law" = some (some (.ref f))) (e2 : K.lookup f = some ⟨oc, od, .func (fnOf "law" "law" params body scope dV kV doc pm an cdv ct), sl⟩) (e3 : codeIn K cdv "law" = true) .. : ∃ t, My.Txt K t
set_option maxRecDepth 100000 in
set_option maxHeartbeats 0 in
theorem PySem.Challenge.cw_LID_holds : PySem.Challenge.rw_LID.Holds := by
  w_on; o_law; k_head; (case hw => w_witness2)
  k_fill
  refine L2.walk_of (l := PySem.Challenge.rw_LID) (n := 63) (k := 40) (x := "script") (CX := fun w => ..) (sp := fun _ => My.sp_law) rfl (by decide) rfl ⟨rfl, by decide, by decide⟩ (fun w h Y => PySem.W.kIn_of Y) ?F ?S ?C
  case F =>
    intro w mg fa h KX G hmg
    have T : ∃ t, My.Txt (L2.KOf KX) t := by
      dsimp only [L2.KOf]                          -- K must stand as «<heap const> w.params» for k_is
      refine' My.txt_mk ?e1 ?e2 ?e3 ..
      (case e1 => PySem.W.k_is)                    -- in the order: a name -> its address -> its object -> its parts
      (case e2 => PySem.W.k_is)
      ..
    obtain ⟨t, T⟩ := T
    have e0 := hmg.symm.trans (PySem.W.mg_of KX G T.law)
    cases e0                                       -- fa is the law's own address
    exact ⟨_, fun s u => .of_eq rfl, fun base kb nb => My.law_fn T kb nb⟩     -- if «.of_eq rfl» comes too early: refine' ⟨_, ?b, fun base kb nb => My.law_fn T kb nb⟩; exact fun s u => .of_eq rfl
  case S => exact fun w H a ns hl hO hS => ..
  case C => exact ..
(the tactic k_is has no namespace: write k_is) -/
namespace L2
open PySem PySem.Spec PyProof.Rows
/-- the j-th statement of a class's body -/
def inClass (s : Stmt) (j : Nat) : Stmt := match s with
  | .ClassDef _ _ _ body _ _ _ _ _ _ _ => body.getD j (.Pass ⟨0, 0, 0, 0⟩)
  | _ => .Pass ⟨0, 0, 0, 0⟩
def defArgs (s : Stmt) : Arguments := match s with
  | .FunctionDef _ a _ _ _ _ _ _ _ _ => a
  | _ => { posonlyargs := [], args := [], vararg := none, kwonlyargs := [], kw_defaults := [], kwarg := none, defaults := [] }
def defBody (s : Stmt) : List Stmt := match s with
  | .FunctionDef _ _ b _ _ _ _ _ _ _ => b
  | _ => []
def defScope (s : Stmt) : Scope := match s with
  | .FunctionDef _ _ _ _ _ _ sc _ _ _ => sc
  | _ => { kind := .function, names := [], isGenerator := false, isCoroutine := false }
abbrev CX0 : CXT := fun _ _ _ _ _ _ => False
abbrev E0 : XK := fun _ _ _ => False
theorem pass0 {X : Cx} : Passes CX0 X E0 := fun _ _ _ _ _ _ _ h => h.elim
structure Fun (K : PySem.W.Frag) (x qual : Str) (st : Stmt) (f : Addr) (fd : FuncData) : Prop where
  ex : ∃ (oc : Value) (od : Option Addr) (kV doc pm : Value) (an : Option Addr) (cdv ct : Value) (osl : Array (Option Value)),
    fd = PySem.W.fnOf x qual (defArgs st) (defBody st) (defScope st) .none kV doc pm an cdv ct ∧ K.lookup f = some ⟨oc, od, .func fd, osl⟩ ∧ PySem.W.codeIn K cdv qual = true
  kp : PySem.W.keepIn K (.ref f) = true
section
variable {P : Program} {w : World} {K : PySem.W.Frag} {mg : Str → Option Value} {base : Heap}
/-- THE RULE for a def: its body as a term of rules, and the reading of that term -/
theorem Fun.ok {x qual : Str} {st : Stmt} {f : Addr} {fd : FuncData} {N ps : List Str} {k : Nat} {sp : Sp} (F : Fun K x qual st f fd) (S : FnScope N ps (defScope st)) (len : ∀ vs H Q E, sp vs H Q E → vs.length = ps.length)
    (hbody : ∀ (cdv : Value) (A : Around) (outer : List Env) (s : Shared) (H : Hp) (vs : List V) (Q : VK) (E : XK), Room k (A.deeper (envOfC qual (defScope st) s.heap.objs.size f cdv)) → sp vs H Q E →
      ∃ t, PSs (cxOf CX0 P w K mg base N qual (defScope st) f cdv A outer s H E).nox (defBody st) t ∧ t { nx := fun _ H' => Q .non H', rt := Q } (start N vs) H) : FnOk P w K mg base CX0 (k + 1) f fd ps sp := by
  obtain ⟨oc, od, kV, doc, pm, an, cdv, ct, osl, rfl, lk, hcd⟩ := F.ex
  refine fn_of lk hcd S len fun A outer s H vs Q E hr hsp => ?_
  obtain ⟨t, h, q⟩ := hbody cdv A outer s H vs Q E hr hsp
  exact ⟨t, h.nox, q⟩
/-- how its arguments bind (no defaults): h is «fun _ _ _ _ _ _ us hl => match us, hl with | [_, _], _ => rfl», one _ a parameter -/
theorem Fun.binds {x qual : Str} {st : Stmt} {f : Addr} {fd : FuncData} {ps : List Str} (F : Fun K x qual st f fd)
    (h : ∀ (kV doc pm : Value) (an : Option Addr) (cdv ct : Value) (us : List Value), us.length = ps.length → bindArgs (PySem.W.fnOf x qual (defArgs st) (defBody st) (defScope st) .none kV doc pm an cdv ct) ⟨us, []⟩ = pure (ps.zip us)) : Binds K fd ps [] := by
  obtain ⟨oc, od, kV, doc, pm, an, cdv, ct, osl, rfl, lk, hcd⟩ := F.ex
  exact .all (h kV doc pm an cdv ct)
theorem fun_mk {x qual : Str} {st : Stmt} {f : Addr} {oc : Value} {od an : Option Addr} {osl : Array (Option Value)} {kV doc pm cdv ct : Value} (l : K.lookup f = some ⟨oc, od, .func (PySem.W.fnOf x qual (defArgs st) (defBody st) (defScope st) .none kV doc pm an cdv ct), osl⟩)
    (c : PySem.W.codeIn K cdv qual = true) (k : PySem.W.keepIn K (.ref f) = true) : Fun K x qual st f (PySem.W.fnOf x qual (defArgs st) (defBody st) (defScope st) .none kV doc pm an cdv ct) := ⟨⟨oc, od, kV, doc, pm, an, cdv, ct, osl, rfl, l, c⟩, k⟩
end
theorem hu_of {A : Around} {k : Nat} (hr : Room k A) : A.units + 1 < cLine := Nat.lt_of_le_of_lt (Nat.add_le_add_left (by decide : 1 ≤ 64) _) hr.units
theorem small1000 {n : Nat} (h : n ≤ 1000) : n < sizeLine := Nat.lt_of_le_of_lt h (by decide)
section
variable {X : Cx}
theorem pv (i : Nat) {x : Str} {pos : Pos} (hN : X.N[i]? = some x := by rfl) (hv : Vis X.env.scope x := by first | exact Or.inl rfl | exact Or.inr (Or.inl rfl) | exact Or.inr (Or.inr rfl)) (hd : (x == ("__debug__" : Str)) = false := by decide)
    (hcd : (x == ("__classdict__" : Str)) = false := by decide) : PE X (.Name x pos) (tVar i) := pe_var hN hv hd hcd
end
theorem iteF {A B : Prop} (h : B) : if false = true then A else B := by
  rw [if_neg Bool.false_ne_true]
  exact h
theorem iteT {A B : Prop} (h : A) : if true = true then A else B := by
  rw [if_pos rfl]
  exact h
theorem ite2 {c A B : Prop} [Decidable c] (h1 : c → A) (h2 : ¬ c → B) : if c then A else B := by
  by_cases h : c
  · rw [if_pos h]
    exact h1 h
  · rw [if_neg h]
    exact h2 h
/-- all that was tracked is as it was -/
def Same (H H' : Hp) : Prop := ∀ b o, H b = some o → H' b = some o
theorem Same.refl (H : Hp) : Same H H := fun _ _ h => h
theorem Same.trans {H H1 H2 : Hp} (a : Same H H1) (b : Same H1 H2) : Same H H2 := fun c o h => b c o (a c o h)
theorem Same.free {H H' : Hp} (e : Same H H') {l : Addr} (h : H' l = Option.none) : H l = Option.none := by
  cases q : H l with
  | none => rfl
  | some o =>
    rw [e l o q] at h
    cases h
theorem Same.seq {K : PySem.W.Frag} {H H' : Hp} {a : Addr} {xs : List V} (e : Same H H') (h : SqL K H a xs) : SqL K H' a xs := by
  rcases h with (h | ⟨o, h⟩) | h
  · exact .inl (.inl (e _ _ h))
  · exact .inl (.inr ⟨o, e _ _ h⟩)
  · exact .inr h
section
variable {κ : Type} [DecidableEq κ]
end
/-- a new instance and its __init__ leave all that was tracked as it was -/
theorem Same.made {H H1 : Hp} {x dx C : Addr} (nx : H x = Option.none) (nd : H dx = Option.none) (k : ∀ b o, (upd (upd H dx (.own x)) x (.ins C dx [])) b = some o → b ≠ x → H1 b = some o) : Same H H1 := fun b o e =>
  k b o (by rw [upd_ne (ne_of_none e nx), upd_ne (ne_of_none e nd)]; exact e) (ne_of_none e nx)
end L2
set_option Elab.async false
set_option linter.all false
set_option maxRecDepth 100000
namespace L2
open PySem PySem.Spec PyProof.Rows
abbrev EnO (h : Heap) (e it : Addr) (i : Int) (f0 f1 old : Value) : Prop :=
  h.get? e = some { cls := .type "enumerate", dict := none, data := .fields #[f0, f1, .ref it, rawInt i, .none, old], slots := #[] }
/-- the enumerate between two items: nothing handed out, or the last pair still stands -/
def EnS (h : Heap) (e it : Addr) (i : Int) : Prop :=
  (∃ old, EnO h e it i .none (.bool false) old) ∨ ∃ (a : Addr) (f : Bool) (old : Value) (oa : Obj), EnO h e it i (rawInt a) (.bool f) old ∧ h.get? a = some oa ∧ a ≠ e ∧ a ≠ it
section
variable {prog : Program} {w : World} {A : Around} {E : Value → Shared → Prop} {s : Shared}
theorem EnS.keep {h h' : Heap} {e it S : Addr} {i : Int} (x : EnS h e it i) (hk : ∀ b o, b ≠ S → h.get? b = some o → h'.get? b = some o) (he : e ≠ S)
    (hS : ∀ o, h.get? S = some o → ∃ o', h'.get? S = some o') : EnS h' e it i := by
  rcases x with ⟨old, x⟩ | ⟨a, f, old, oa, x, ha, h1, h2⟩
  · exact .inl ⟨old, hk _ _ he x⟩
  · by_cases z : a = S
    · subst z
      obtain ⟨o', q⟩ := hS _ ha
      exact .inr ⟨a, f, old, o', hk _ _ he x, q, h1, h2⟩
    · exact .inr ⟨a, f, old, oa, hk _ _ he x, hk _ _ z ha, h1, h2⟩
/-- the pairs made so far -/
structure EnG (its : Array Value) (lo : Addr) (h : Heap) (as : List Addr) : Prop where
  above : ∀ a ∈ as, lo < a
  pairs : ∀ (j : Nat) (a : Addr), as[j]? = some a → ∃ (t : Tok) (x : Value), its[j]? = some x ∧ h.get? a = some { cls := .type "tuple", data := .seq #[.int j t, x] }
theorem EnS.ty {e it : Addr} {i : Int} (he : EnS s.heap e it i) : s.TypeIs (.ref e) "enumerate" := by rcases he with ⟨_, he⟩ | ⟨_, _, _, _, he, _⟩ <;> exact ⟨_, he, rfl⟩
end
end L2
set_option Elab.async false
set_option linter.all false
set_option maxRecDepth 100000
namespace L2
open PySem PySem.Spec PyProof.Rows
section
variable {X : Cx} {pins : List (Addr × Obj)} {σ : St} {H H' : Hp} {s : Shared} {h' : Heap}
/-- the heap H with what the list names laid over it -/
def lay (H : Hp) : List (Addr × HO) → Hp
  | [] => H
  | (a, o) :: r => upd (lay H r) a o
end
def tLE (K : PySem.W.Frag) (ta : TA) : TE := fun σ H Q => ta σ H fun vs H1 => ∃ (a : Addr) (xs : List V), vs = [.ref a] ∧ SqL K H1 a xs ∧ ∀ (l : Addr) (ts : List Addr) (H' : Hp), H1 l = none → (∀ t ∈ ts, H1 t = none) → ts.length = xs.length →
  (∀ b o, H1 b = some o → H' b = some o) → H' l = some (.lst (ts.map V.ref)) → (∀ (j : Nat) (t : Addr), ts[j]? = some t → ∃ x, xs[j]? = some x ∧ H' t = some (.tup [.int j, x])) → Q (.ref l) H'
end L2
set_option Elab.async false
set_option linter.all false
set_option maxRecDepth 100000
namespace L2
open PySem PySem.Spec PyProof.Rows
def revS (z : Str) : Str := ⟨z.cps.toList.reverse.toArray⟩
theorem revS_length (z : Str) : (revS z).length = z.length := by
  show (z.cps.toList.reverse.toArray).size = z.cps.size
  simp
theorem rev_idx (n : Nat) : Builtin.Str.strSliceIndices none none (-1) n = (List.range n).map fun k => n - 1 - k := by
  unfold Builtin.Str.strSliceIndices sliceRange
  have e0 : ¬ ((-1 : Int) > 0) := by decide
  simp only [if_neg e0]
  have e1 : (if (n : Int) - 1 > -1 then ((n : Int) - 1 - -1 - -1 - 1) / (- -1) else 0) = (n : Int) := by
    by_cases h : (n : Int) - 1 > -1
    · rw [if_pos h, show (- -1 : Int) = 1 from rfl, Int.ediv_one]; omega
    · rw [if_neg h]; omega
  rw [e1, Int.toNat_natCast]
  refine List.map_congr_left fun k hk => ?_
  have := List.mem_range.mp hk
  omega
theorem fm_congr {α β : Type} {f g : α → Option β} : ∀ {l : List α}, (∀ a ∈ l, f a = g a) → l.filterMap f = l.filterMap g
  | [], _ => rfl
  | a :: l, h => by
    rw [List.filterMap_cons, List.filterMap_cons, h a (List.mem_cons_self ..), fm_congr fun b hb => h b (List.mem_cons_of_mem _ hb)]
theorem rev_pick (z : Str) : ((List.range z.length).map fun k => z.length - 1 - k).filterMap (z.cps[·]?) = z.cps.toList.reverse := by
  rw [List.filterMap_map]
  have key : ∀ (l : List Nat), (List.range l.length).filterMap ((fun x => l[x]?) ∘ fun k => l.length - 1 - k) = l.reverse := by
    intro l
    have e : ∀ k ∈ List.range l.length, ((fun x => l[x]?) ∘ fun k => l.length - 1 - k) k = some (l.reverse.getD k 0) := by
      intro k hk
      have hk' := List.mem_range.mp hk
      show l[l.length - 1 - k]? = _
      rw [List.getD_eq_getElem?_getD, List.getElem?_reverse hk']
      rw [List.getElem?_eq_getElem (by omega)]
      rfl
    rw [fm_congr e]
    rw [List.filterMap_eq_map']
    refine List.ext_getElem (by simp) fun i h1 h2 => ?_
    simp at h1 h2 ⊢
    rw [List.getElem?_eq_getElem (by simpa using h2)]
    simp
  have := key z.cps.toList
  rw [Array.length_toList] at this
  rw [← this]
  refine fm_congr fun k _ => ?_
  show z.cps[_]? = z.cps.toList[_]?
  rw [Array.getElem?_toList] <;> rfl
def tRevS (te : TE) : TE := fun σ H Q => te σ H fun x H1 => ∃ z, x = .str z ∧ z.length ≤ sizeLine ∧ Q (.str (revS z)) H1
section
variable {X : Cx} {e : Expr} {te : TE}
theorem pe_revS {k : Nat} {p1 p2 p3 pos : Pos} (he : PE X e te) : PE X (.Subscript e (.Slice none none (some (.UnaryOp .USub (.Constant (.int 1) k p1) p3)) p2) pos) (tRevS te) := by
  intro pins s σ H Q I h
  refine Subscript_ (thn (he pins s σ H _ I h) fun v s1 ⟨x, H1, I1, r1, q1⟩ => ?_)
  obtain ⟨z, rfl, hz, q⟩ := q1
  obtain ⟨t, rfl⟩ := r1
  refine wpAny_Slice ?_
  rw [evalPart_none]
  refine wpAny_pure (wpAny_pure ?_)
  rw [evalPart_some]
  refine thn (pe_un un_neg pe_int pins s1 σ H1 (fun x H' => x = .int (-1) ∧ H' = H1) I1 ⟨1, rfl, rfl, rfl⟩) fun u s2 ⟨x2, H2, I2, r2, e2, e3⟩ => ?_
  subst e2 e3
  obtain ⟨t2, rfl⟩ := r2
  have I4 : Inv X pins σ H2 { s2 with heap := s2.heap.push { cls := .type "slice", data := .fields #[.none, .none, .int (-1) t2] } } := I2.kept (t' := s2.toks) fun b ob q => Heap.get?_push_of_some _ q
  show wpAny (model X.prog X.w) X.A (subscriptTail e _ (.str z t) (.ref s2.heap.objs.size)) (EP X pins σ Q) X.xe _
  refine tail_any (ops := [.ref s2.heap.objs.size, .str z t]) (typeIs_str _ _ _) F.slot_str_getitem.lookup ?_ (by with_unfolding_all rfl)
  refine wpAny_getItem_str_slice (l := none) (u := none) (st := some (-1, t2)) ⟨_, Heap.get?_push_size _ rfl, rfl, rfl⟩ rfl ?_
  show Made.post (if ((-1 : Int) == 1 && _) = true then _ else Made.str ⟨((Builtin.Str.strSliceIndices none none (-1) z.length).filterMap (z.cps[·]?)).toArray⟩) (EP X pins σ Q) _
  rw [if_neg (by simp), rev_idx, rev_pick]
  exact ⟨by show (revS z).length ≤ sizeLine; rw [revS_length]; exact hz, .str _, H2, I4.tok _, ⟨_, rfl⟩, q⟩
def mulS (z : Str) (n : Int) : Str := ⟨(List.replicate n.toNat z.cps.toList).flatten.toArray⟩
def rMulS : R2 := fun x y H Q => ∃ z n, x = .str z ∧ y = .int n ∧ n < 1000000 ∧ -1000000 < n ∧ z.length * n.toNat ≤ 1000000 ∧ Q (.str (mulS z n)) H
end
end L2
set_option Elab.async false
set_option linter.all false
set_option maxRecDepth 100000
namespace L2
open PySem PySem.Spec PyProof.Rows
inductive IsI (K : PySem.W.Frag) (H : Hp) : V → String → Bool → Prop
  | i_int i : IsI K H (.int i) "int" true
  | i_bool i : IsI K H (.int i) "bool" false
  | i_str i : IsI K H (.int i) "str" false
  | i_list i : IsI K H (.int i) "list" false
  | i_tuple i : IsI K H (.int i) "tuple" false
  | i_dict i : IsI K H (.int i) "dict" false
  | b_int i : IsI K H (.bl i) "int" true
  | b_bool i : IsI K H (.bl i) "bool" true
  | b_str i : IsI K H (.bl i) "str" false
  | b_list i : IsI K H (.bl i) "list" false
  | b_tuple i : IsI K H (.bl i) "tuple" false
  | b_dict i : IsI K H (.bl i) "dict" false
  | s_int i : IsI K H (.str i) "int" false
  | s_bool i : IsI K H (.str i) "bool" false
  | s_str i : IsI K H (.str i) "str" true
  | s_list i : IsI K H (.str i) "list" false
  | s_tuple i : IsI K H (.str i) "tuple" false
  | s_dict i : IsI K H (.str i) "dict" false
  | n_int : IsI K H .non "int" false
  | n_bool : IsI K H .non "bool" false
  | n_str : IsI K H .non "str" false
  | n_list : IsI K H .non "list" false
  | n_tuple : IsI K H .non "tuple" false
  | n_dict : IsI K H .non "dict" false
  | lr_int a xs (h : SqL K H a xs) : IsI K H (.ref a) "int" false
  | lr_bool a xs (h : SqL K H a xs) : IsI K H (.ref a) "bool" false
  | lr_str a xs (h : SqL K H a xs) : IsI K H (.ref a) "str" false
  | lr_list a xs (h : SqL K H a xs) : IsI K H (.ref a) "list" true
  | lr_tuple a xs (h : SqL K H a xs) : IsI K H (.ref a) "tuple" false
  | lr_dict a xs (h : SqL K H a xs) : IsI K H (.ref a) "dict" false
  | tr_int a xs (h : SqT K H a xs) : IsI K H (.ref a) "int" false
  | tr_bool a xs (h : SqT K H a xs) : IsI K H (.ref a) "bool" false
  | tr_str a xs (h : SqT K H a xs) : IsI K H (.ref a) "str" false
  | tr_list a xs (h : SqT K H a xs) : IsI K H (.ref a) "list" false
  | tr_tuple a xs (h : SqT K H a xs) : IsI K H (.ref a) "tuple" true
  | tr_dict a xs (h : SqT K H a xs) : IsI K H (.ref a) "dict" false
  | dr_int a kvs (h : Rd H a (.dK kvs)) : IsI K H (.ref a) "int" false
  | dr_bool a kvs (h : Rd H a (.dK kvs)) : IsI K H (.ref a) "bool" false
  | dr_str a kvs (h : Rd H a (.dK kvs)) : IsI K H (.ref a) "str" false
  | dr_list a kvs (h : Rd H a (.dK kvs)) : IsI K H (.ref a) "list" false
  | dr_tuple a kvs (h : Rd H a (.dK kvs)) : IsI K H (.ref a) "tuple" false
  | dr_dict a kvs (h : Rd H a (.dK kvs)) : IsI K H (.ref a) "dict" true
def rIsi (K : PySem.W.Frag) : List V → Hp → VK → Prop := fun xs H Q => ∃ x T b, xs = [x, .ty T] ∧ IsI K H x T b ∧ Q (.bl b) H
end L2
set_option Elab.async false
set_option linter.all false
set_option maxRecDepth 100000
namespace L2
open PySem PySem.Spec PyProof.Rows
theorem entry_range_rev : entryFor table "range.__reversed__" = some Builtin.«range.__reversed__» := entryFor_of_tree (by kernel_rfl)
theorem slot_range_rev : Slot "range" "__reversed__" "range.__reversed__" :=
  .of (owner := "range") (n := "__reversed__") (by rw [typeLookup_type, builtinLookup_eq_fast]; kernel_rfl) (by decide +kernel) (by decide +kernel) (by decide +kernel)
    (by first | exact .inl (by decide +kernel) | exact .inr (by decide +kernel)) (by rw [isSubtype_type]; kernel_rfl)
theorem args_range_rev (a : Value) : argsOk "range.__reversed__" ⟨[a], []⟩ := by
  unfold argsOk; rw [signature?_of (id := "range.__reversed__") (n := ['_', '_', 'd', 'e', 's', 'r', 'e', 'v', 'e', 'r', '_', '_']) (o := ['e', 'g', 'n', 'a', 'r']) (by kernel_rfl) PySem.F.owner_range]; kernel_rfl
theorem sub_ri_reversed : isSubtype (.type "range_iterator") (.type "reversed") = pure false := by rw [isSubtype_type]; kernel_rfl
section
variable {prog : Program} {w : World} {A : Around} {E : Value → Shared → Prop} {s : Shared}
def rriObj (j : Int) : Obj := { cls := .type "range_iterator", data := .fields #[rawInt (j - 1), rawInt j, rawInt (-1)] }
theorem call_range_rev {r : Addr} {j : Int} {t u v : Tok} {Q : Value → Shared → Prop} (hl : IsRange s.heap r 0 j 1 t u v) (h0 : 0 ≤ j) (h1 : j < 2 ^ 62)
    (h : Q (.ref s.heap.objs.size) { s with heap := s.heap.push (rriObj j) }) : wpAny (model prog w) A (call (.builtin "range.__reversed__") [.ref r]) Q E s := by
  have hT : s.TypeIs (.ref r) "range" := ⟨_, hl, rfl⟩
  refine wpAny_call_entry slot_range_rev hT entry_range_rev ?_ (args_range_rev _)
  unfold Builtin.«range.__reversed__»
  refine wpAny_bind (wpAny_of_eq (a := Value.ref r) rfl ?_)
  unfold Builtin.Range.rangeFields
  refine wpAny_bind ?_
  refine wpAny_bind (wpAny_field hl rfl (x := .int 0 t) rfl ?_)
  refine wpAny_bind (wpAny_pure ?_)
  refine wpAny_bind (wpAny_field hl rfl (x := .int j u) rfl ?_)
  refine wpAny_bind (wpAny_pure ?_)
  refine wpAny_bind (wpAny_field hl rfl (x := .int 1 v) rfl ?_)
  refine wpAny_bind (wpAny_pure ?_)
  refine wpAny_pure ?_
  have e1 : Builtin.Range.rangeSize 0 j 1 = j := by
    unfold Builtin.Range.rangeSize
    rw [if_pos (by decide)]
    split
    · rw [Int.ediv_one]; omega
    · omega
  have e2 : (Builtin.Range.rangeFitsLong 0 && Builtin.Range.rangeFitsLong j && Builtin.Range.rangeFitsLong 1 && Builtin.Range.rangeFitsLong (-1) && Builtin.Range.rangeFitsLong (0 - 1) && Builtin.Range.rangeFitsLong j) = true := by
    unfold Builtin.Range.rangeFitsLong
    simp only [Bool.and_eq_true, decide_eq_true_eq]
    omega
  dsimp only
  rw [e1, e2]
  refine wpAny_ite_split (fun hab => absurd hab (by decide)) fun _ => ?_
  rw [if_pos rfl]
  have e3 : (0 : Int) + (j - 1) * 1 = j - 1 := by omega
  rw [e3]
  exact wpAny_bind (wpAny_newObj_type (wpAny_pure ⟨_, rfl, h⟩))
theorem code_reversed_rng {r : Addr} {j : Int} {t u v : Tok} {Q₁ : Value → Shared → Prop} (hl : IsRange s.heap r 0 j 1 t u v) (h0 : 0 ≤ j) (h1 : j < 2 ^ 62)
    (h : Q₁ (.ref s.heap.objs.size) { s with heap := s.heap.push (rriObj j) }) :
    codeAny (model prog w) A (.call (.builtin "reversed.__new__") ⟨[.type "reversed", .ref r], []⟩) (wants Q₁ E) s := by
  have hT : s.TypeIs (.ref r) "range" := ⟨_, hl, rfl⟩
  refine codeAny_of_tree ?_
  show wpAny _ A.in1 (do checkBuiltinCall "reversed.__new__" ⟨[.type "reversed", .ref r], []⟩; again (.builtin "reversed.__new__" ⟨[.type "reversed", .ref r], []⟩)) _ _ s
  refine wpAny_bind (wpAny_of_eq (PySem.F.newCall_reversed_1 _) (wpAny_pure ⟨plainId_quiet PySem.F.plain_reversed_new _, codeAny_builtin PySem.F.entry_reversed_new ?_⟩))
  rw [Around.under_plainId PySem.F.plain_reversed_new _]
  unfold Builtin.«reversed.__new__»
  refine wpAny_bind (wpAny_of_eq (newClass_reversed _) ?_)
  try dsimp only
  refine wpAny_bind (wpAny_of_eq (a := ()) (by first | rfl | kernel_rfl) ?_)
  refine wpAny_bind (wpAny_of_eq (a := ()) (by first | rfl | kernel_rfl) ?_)
  try dsimp only
  refine wpAny_bind (wpAny_specialOf hT slot_range_rev.lookup ?_)
  try dsimp only
  refine wpAny_bind (wpAny_of_eq (slot_range_rev.bind _) ?_)
  try dsimp only
  first
  | rw [if_neg (show ¬ ((Value.builtin "range.__reversed__" == Value.none) = true) from Bool.false_ne_true)]
  | (show wpAny _ _ (if (Value.builtin "range.__reversed__" == Value.none) = true then _ else _) _ _ _; rw [if_neg (show ¬ ((Value.builtin "range.__reversed__" == Value.none) = true) from Bool.false_ne_true)])
  refine wpAny_bind (wpAny_rule ?_)
  refine wpAny_bind (m := runValue (.call (.builtin "range.__reversed__") ⟨[.ref r], []⟩)) (show wpAny _ _ (call (.builtin "range.__reversed__") [.ref r]) _ _ _ from call_range_rev hl h0 h1 ?_)
  first
  | exact wpAny_pure h
  | exact wpAny_bind (wpAny_pure (wpAny_pure h))
theorem call_reversed_rng {r : Addr} {j : Int} {t u v : Tok} {Q : Value → Shared → Prop} (hl : IsRange s.heap r 0 j 1 t u v) (h0 : 0 ≤ j) (h1 : j < 2 ^ 62)
    (h : Q (.ref s.heap.objs.size) { s with heap := s.heap.push (rriObj j) }) : wpAny (model prog w) A (call (.type "reversed") [.ref r]) Q E s := by
  refine callType_other (U := "range_iterator") (Q₁ := fun obj s₁ => obj = .ref s.heap.objs.size ∧ s₁ = { s with heap := s.heap.push (rriObj j) }) (by decide +kernel) PySem.F.create_reversed ⟨_, _, PySem.F.mro_reversed⟩ PySem.F.made_reversed sub_ri_reversed (PySem.F.typeCall_reversed_1 _) (code_reversed_rng hl h0 h1 ⟨rfl, rfl⟩) ?_
  rintro obj s₁ ⟨rfl, rfl⟩
  exact ⟨⟨_, Heap.get?_push_size _ rfl, rfl⟩, h⟩
end
def iRevR (ta : TA) : TI := fun σ H R => ta σ H fun vs H1 => ∃ j : Int, vs = [.int j] ∧ 0 ≤ j ∧ j < 2 ^ 62 ∧ R (Itc (j - 1) (-1) j.toNat) H1
theorem pi_revRange {X : Cx} {tg : Expr} {a : Expr} {ta : TA} {p p2 pos pos2 : Pos} (hg : Gl X "reversed") (hm : X.mg "reversed" = none) (hg2 : Gl X "range") (hm2 : X.mg "range" = none) (ha : PA X [a] ta)
    (hs : starEach [a] X.env = [(false, eval a X.env)] := by rfl) (hs2 : starEach [Expr.Call (.Name "range" p2) [a] [] pos2] X.env = [(false, eval (Expr.Call (.Name "range" p2) [a] [] pos2) X.env)] := by rfl) :
    PI X tg (.Call (.Name "reversed" p) [.Call (.Name "range" p2) [a] [] pos2] [] pos) (iRevR ta) := by
  intro pins s σ H R I h
  refine Call_ (ld_blt I hg hm boot_reversed5 (PyProof.Rows.callWith_type1 ?_ hs2 rfl))
  rw [hs2]
  show wpAny _ _ (spliced ((false, eval _ X.env) :: backTo pos [])) _ _ s
  refine Calls.spliced_cons (Call_ (ld_blt I hg2 hm2 boot_range (PyProof.Rows.callWith_type1 (thn (ha pos2 pins s σ H _ I h) fun us s1 ⟨vs, H1, I1, r1, q1⟩ => ?_) hs rfl)))
  obtain ⟨j, e, h0, h1, q⟩ := q1
  subst e
  cases r1 with
  | cons r rr =>
    cases rr
    obtain ⟨t, rfl⟩ := r
    refine call_range_1 (Calls.spliced_nil ?_)
    refine call_reversed_rng (IsRange.new ..) h0 h1 (wpAny_pyIter_rangeiter (x := j - 1) (left := j) (step := -1) (Heap.get?_push_size _ rfl) ?_)
    have I2 : Inv X pins σ H1 _ := I1.kept (h' := s1.heap.push { cls := .type "range", data := .fields #[.int 0 s1.toks, .int j t, .int 1 (s1.toks + 1)] }) (t' := s1.toks + 2) fun b o e => Heap.get?_push_of_some _ e
    refine pi_one (tk := s1.toks + 2) I2 _ (turn_rangeC _ (j - 1) (-1) j.toNat) ?_ q
    have e1 : (j - 1) + ((0 : Nat) : Int) * (-1) = j - 1 := by simp
    have e2 : (j.toNat : Int) - ((0 : Nat) : Int) = j := by omega
    show IsRangeIter _ _ ((j - 1) + ((0 : Nat) : Int) * (-1)) ((j.toNat : Int) - ((0 : Nat) : Int)) (-1)
    rw [e1, e2]
    exact Heap.get?_push_size _ rfl
theorem cr_dictCopy {X : Cx} : CallR X (.type "dict") (fun xs H Q => ∃ a kvs, xs = [V.ref a] ∧ Rd H a (.dK kvs) ∧ ∀ p, H p = none → Q (.ref p) (upd H p (.dK kvs))) := by
  intro pins s σ H xs us Q I r h
  obtain ⟨a, kvs, rfl, e, q⟩ := h
  have := r.ref1
  subst this
  exact d_copyOf I e fun p s' hp I' => ⟨.ref p, _, I', rfl, q p hp⟩
end L2
set_option Elab.async false
set_option linter.all false
set_option maxRecDepth 100000
namespace L2
open PySem PySem.Spec PyProof.Rows
structure Callee (P : Program) (w : World) (K : PySem.W.Frag) (mg : Str → Option Value) (base : Heap) (k : Nat) (x : Str) (ps : List Str) (sp : Sp) where
  f : Addr
  fd : FuncData
  ok : FnOk P w K mg base CX0 k f fd ps sp
  at_ : mg x = some (.ref f)
  kp : PySem.W.keepIn K (.ref f) = true
  bd : Binds K fd ps []
theorem pe_callC {X : Cx} {j k : Nat} {x : Str} {ps : List Str} {sp : Sp} {e : Expr} {es : List Expr} {t : TA} {p pos : Pos} (C : Callee X.prog X.w X.K X.mg X.base k x ps sp) (hr : Room j X.A) (hg : Gl X x) (ha : PA X (e :: es) t) (hk : k ≤ j := by decide)
    (hdb : (x == ("__debug__" : Str)) = false := by decide) (he : starEach (e :: es) X.env = (false, eval e X.env) :: starEach es X.env := by rfl) (hpl : (backTo pos (starEach es X.env)).any (·.1) = false := by rfl) :
    PE X (.Call (.Name x p) (e :: es) [] pos) (tCall sp [] E0 t) := pe_call C.ok (hr.mono hk) hg C.at_ C.kp C.bd .nil pass0 ha hdb he hpl
/-- what the text doesn't name itself -/
structure Glb (mg : Str → Option Value) : Prop where
  m_range : mg "range" = none
  m_len : mg "len" = none
  m_max : mg "max" = none
  m_min : mg "min" = none
  m_int : mg "int" = none
  m_bool : mg "bool" = none
  m_str : mg "str" = none
  m_list : mg "list" = none
  m_tuple : mg "tuple" = none
  m_dict : mg "dict" = none
  m_set : mg "set" = none
  m_sum : mg "sum" = none
  m_sorted : mg "sorted" = none
  m_enumerate : mg "enumerate" = none
  m_isinstance : mg "isinstance" = none
  m_reversed : mg "reversed" = none
  m_repr : mg "repr" = none
  m_all : mg "all" = none
  m_zip : mg "zip" = none
theorem Glb.mk_ {K : PySem.W.Frag} {h : Heap} {mg : Str → Option Value} (X : K.In h) (G : h.Ns mainGlobals mg)
    (a1 : PySem.W.nsIn K mainGlobals "range" = some none) (a2 : PySem.W.nsIn K mainGlobals "len" = some none) (a3 : PySem.W.nsIn K mainGlobals "max" = some none) (a4 : PySem.W.nsIn K mainGlobals "min" = some none)
    (a5 : PySem.W.nsIn K mainGlobals "int" = some none) (a6 : PySem.W.nsIn K mainGlobals "bool" = some none) (a7 : PySem.W.nsIn K mainGlobals "str" = some none) (a8 : PySem.W.nsIn K mainGlobals "list" = some none)
    (a9 : PySem.W.nsIn K mainGlobals "tuple" = some none) (a10 : PySem.W.nsIn K mainGlobals "dict" = some none) (a11 : PySem.W.nsIn K mainGlobals "set" = some none) (a12 : PySem.W.nsIn K mainGlobals "sum" = some none)
    (a13 : PySem.W.nsIn K mainGlobals "sorted" = some none) (a14 : PySem.W.nsIn K mainGlobals "enumerate" = some none) (a15 : PySem.W.nsIn K mainGlobals "isinstance" = some none) (a16 : PySem.W.nsIn K mainGlobals "reversed" = some none)
    (a17 : PySem.W.nsIn K mainGlobals "repr" = some none) (a18 : PySem.W.nsIn K mainGlobals "all" = some none) (a19 : PySem.W.nsIn K mainGlobals "zip" = some none) : Glb mg :=
  ⟨PySem.W.mg_none_of X G a1, PySem.W.mg_none_of X G a2, PySem.W.mg_none_of X G a3, PySem.W.mg_none_of X G a4, PySem.W.mg_none_of X G a5, PySem.W.mg_none_of X G a6, PySem.W.mg_none_of X G a7, PySem.W.mg_none_of X G a8, PySem.W.mg_none_of X G a9,
   PySem.W.mg_none_of X G a10, PySem.W.mg_none_of X G a11, PySem.W.mg_none_of X G a12, PySem.W.mg_none_of X G a13, PySem.W.mg_none_of X G a14, PySem.W.mg_none_of X G a15, PySem.W.mg_none_of X G a16, PySem.W.mg_none_of X G a17, PySem.W.mg_none_of X G a18, PySem.W.mg_none_of X G a19⟩
def tCut (t : TS) : TS := fun D σ H => ∃ R : St → Hp → Prop, t { D with nx := R } σ H ∧ ∀ σ' H', R σ' H' → D.nx σ' H'
theorem ps_cut {X : Cx} {st : Stmt} {t : TS} (h : PS X st t) : PS X st (tCut t) := by
  intro pins s σ H D I hq
  obtain ⟨R, h1, h2⟩ := hq
  refine thn (h pins s σ H _ I h1) fun fl s' q => ?_
  cases fl with
  | next => obtain ⟨σ', H', I', q⟩ := q; exact ⟨σ', H', I', h2 _ _ q⟩
  | _ => exact q
def tCutE (t : TE) : TE := fun σ H Q => ∃ R : VK, t σ H R ∧ ∀ v H', R v H' → Q v H'
def Kp (p : Addr) (H H' : Hp) : Prop := ∀ b o, H b = some o → b ≠ p → H' b = some o
theorem Kp.refl (p : Addr) (H : Hp) : Kp p H H := fun _ _ h _ => h
theorem Kp.trans {p : Addr} {H H1 H2 : Hp} (a : Kp p H H1) (b : Kp p H1 H2) : Kp p H H2 := fun c o h n => b c o (a c o h n) n
theorem Same.kp {H H' : Hp} (s : Same H H') (p : Addr) : Kp p H H' := fun b o h _ => s b o h
theorem Kp.new {p : Addr} {H H1 : Hp} (a : Kp p H H1) {q : Addr} {o : HO} (h : H1 q = none) : Kp p H (upd H1 q o) := fun b u e n => by
  have := a b u e n
  rw [upd_ne (ne_of_none this h)]; exact this
theorem Kp.set {p : Addr} {H H1 : Hp} (a : Kp p H H1) {o : HO} : Kp p H (upd H1 p o) := fun b u e n => by
  rw [upd_ne n]; exact a b u e n
/-- a new thing changed again -/
theorem Kp.over {p : Addr} {H H1 : Hp} (a : Kp p H H1) {q : Addr} {o : HO} (h : H q = none) : Kp p H (upd H1 q o) := fun b u e n => by
  rw [upd_ne (ne_of_none e h)]; exact a b u e n
theorem same_new {H : Hp} {p : Addr} (h : H p = none) (o : HO) : Same H (upd H p o) := fun b u q => by rw [upd_ne (ne_of_none q h)]; exact q
theorem Kp.seq {K : PySem.W.Frag} {p : Addr} {H H' : Hp} {a : Addr} {xs : List V} (e : Kp p H H') (hp : ∃ o, H p = some o ∧ Mut (some o)) (hne : a ≠ p) (h : SqL K H a xs) : SqL K H' a xs := by
  rcases h with (h | ⟨o, h⟩) | h
  · exact .inl (.inl (e _ _ h hne))
  · exact .inl (.inr ⟨o, e _ _ h hne⟩)
  · exact .inr h
structure HandAt (H : Hp) (p : Addr) : Prop where
  ex : ∃ d r : Int, H p = some (.lst [.int d, .int r]) ∧ 0 ≤ d ∧ 0 ≤ r ∧ r < 2147483587
theorem HandAt.kp {H H' : Hp} {p q : Addr} (h : HandAt H p) (k : Kp q H H') (n : p ≠ q) : HandAt H' p := by
  obtain ⟨d, r, e, z⟩ := h.ex
  exact ⟨d, r, k _ _ e n, z⟩
theorem HandAt.same {H H' : Hp} {p : Addr} (h : HandAt H p) (k : Same H H') : HandAt H' p := by
  obtain ⟨d, r, e, z⟩ := h.ex
  exact ⟨d, r, k _ _ e, z⟩
theorem HandAt.new {H : Hp} {p q : Addr} {o : HO} (h : HandAt H p) (n : H q = none) : HandAt (upd H q o) p := h.same (same_new n o)
theorem HandAt.ne {H : Hp} {p q : Addr} (h : HandAt H p) (n : H q = none) : q ≠ p := by
  obtain ⟨d, r, e, z⟩ := h.ex
  exact (ne_of_none e n).symm
theorem Kp.free {p : Addr} {H H' : Hp} (k : Kp p H H') (h : HandAt H' p) {q : Addr} (n : H' q = none) : H q = none := by
  cases e : H q with
  | none => rfl
  | some o =>
    have := k q o e (h.ne n)
    rw [n] at this; cases this
/-- a frozen or untracked thing is no hand -/
theorem HandAt.neL {K : PySem.W.Frag} {H : Hp} {p a : Addr} (h : HandAt H p) (o : Obj) (u : HO) (e : H a = some (.frz o u)) : a ≠ p := by
  obtain ⟨d, r, e', z⟩ := h.ex
  exact ne_of e e' (by intro z; cases z)
def spDraw : Sp := fun vs H Q _ => ∃ (p : Addr) (L : Int), vs = [.ref p, .int L] ∧ HandAt H p ∧ 0 < L ∧ L < 1073741824 ∧ ∀ (v : Int) (H' : Hp), 0 ≤ v → v < L → HandAt H' p → Kp p H H' → Q (.int v) H'
def spHand : Sp := fun vs H Q _ => ∃ c k : Int, vs = [.int c, .int k] ∧ ∀ (p : Addr) (H' : Hp), H p = none → HandAt H' p → Same H H' → Q (.ref p) H'
def spCells (K : PySem.W.Frag) : Sp := fun vs H Q _ => ∃ (a : Addr) (ns : List Int) (m : Int), vs = [.ref a, .int m] ∧ SqL K H a (ns.map V.int) ∧ ns.length ≤ 63 ∧ 0 ≤ m ∧ ∀ (l : Addr) (ts : List Addr) (H' : Hp), Same H H' → H l = none → H' l = some (.lst (ts.map V.ref)) → ts.length ≤ 64 →
  (∀ (j : Nat) (t : Addr), ts[j]? = some t → ∃ c : Int, H' t = some (.tup [.int j, .int c])) → Q (.ref l) H'
def spGreat (K : PySem.W.Frag) : Sp := fun vs H Q _ => ∃ (a : Addr) (ns : List Int), vs = [.ref a] ∧ SqL K H a (ns.map V.int) ∧ ns.length ≤ 63 ∧ ∀ b, Q (.bl b) H
def IsRow (x : Str) : Prop := ∀ c ∈ x.cps.toList, 97 ≤ c ∧ c ≤ 122
def spRow : Sp := fun vs H Q _ => ∃ (p : Addr) (n : Int), vs = [.ref p, .int n] ∧ HandAt H p ∧ 0 ≤ n ∧ n ≤ 200 ∧ ∀ (x : Str) (H' : Hp), IsRow x → (x.length : Int) = n → HandAt H' p → Kp p H H' → Q (.str x) H'
def spSize : Sp := fun vs H Q _ => ∃ (p : Addr) (m : Int) (b : Bool), vs = [.ref p, .int m, .bl b] ∧ HandAt H p ∧ 7 ≤ m ∧ m ≤ 80 ∧ ∀ (n : Int) (H' : Hp), 0 ≤ n → n ≤ 80 → HandAt H' p → Kp p H H' → Q (.int n) H'
def spLaw (K : PySem.W.Frag) : Sp := fun vs H Q _ => ∃ (a : Addr) (ns : List Int), vs = [.ref a] ∧ SqL K H a (ns.map V.int) ∧ ns.length ≤ 63 ∧ Only H ∧ ∀ H', Q (.bl true) H'
def Scr (K : PySem.W.Frag) (H : Hp) (a : Addr) (xs : List V) : Prop := (∃ o, H a = some (.frz o (.lst xs))) ∨
  ∃ (o : Obj) (its : Array Value) (n : Nat), K.lookup a = some o ∧ o.cls = .type "list" ∧ o.dict = none ∧ o.data = .seq its n ∧ its.size ≤ sizeLine ∧ Vals xs its.toList
theorem Scr.seq {K : PySem.W.Frag} {H : Hp} {a : Addr} {xs : List V} (h : Scr K H a xs) : SqL K H a xs := by
  rcases h with ⟨o, h⟩ | h
  · exact .inl (.inr ⟨o, h⟩)
  · exact .inr h
theorem Scr.of {K : PySem.W.Frag} {H : Hp} {a : Addr} {xs : List V} (h : SqL K H a xs) (O : Only H) : Scr K H a xs := by
  rcases h with (h | ⟨o, h⟩) | h
  · rcases O a with z | ⟨o, ys, z⟩
    · rw [z] at h; cases h
    · rw [z] at h; cases h
  · exact .inl ⟨o, h⟩
  · exact .inr h
theorem Scr.same {K : PySem.W.Frag} {H H' : Hp} {a : Addr} {xs : List V} (h : Scr K H a xs) (k : Same H H') : Scr K H' a xs := by
  rcases h with ⟨o, h⟩ | h
  · exact .inl ⟨o, k _ _ h⟩
  · exact .inr h
theorem Scr.kp {K : PySem.W.Frag} {H H' : Hp} {a p : Addr} {xs : List V} (h : Scr K H a xs) (hp : HandAt H p) (k : Kp p H H') : Scr K H' a xs := by
  rcases h with ⟨o, h⟩ | h
  · exact .inl ⟨o, k _ _ h (hp.neL (K := K) _ _ h)⟩
  · exact .inr h
theorem lay_ints : ∀ ns : List Int, PyData.canLayAll0 (ns.map PyData.int) = true
  | [] => rfl
  | n :: ns => by
    show (PyData.canLay0 (.int n) && PyData.canLayAll0 (ns.map PyData.int)) = true
    rw [lay_ints ns]; rfl
theorem depth_ints : ∀ ns : List Int, PyData.depthAll (ns.map PyData.int) = 0
  | [] => rfl
  | n :: ns => by
    show max (PyData.depth (.int n)) (PyData.depthAll (ns.map PyData.int)) = 0
    rw [depth_ints ns]; rfl
theorem shaped_ints (ns : List Int) : SeqAt.shaped (.list (ns.map PyData.int)) = true := by
  show (PyData.canLayAll0 (ns.map PyData.int) && decide (PyData.depthAll (ns.map PyData.int) + 1 ≤ 64)) = true
  rw [lay_ints, depth_ints]; rfl
theorem eqv_ints : ∀ ns ms : List Int, PyData.eqvAll (ns.map PyData.int) (ms.map PyData.int) = decide (ns = ms)
  | [], [] => rfl
  | n :: ns, m :: ms => by
    show ((n == m) && PyData.eqvAll (ns.map PyData.int) (ms.map PyData.int)) = _
    rw [eqv_ints ns ms, Bool.eq_iff_iff]
    simp
  | [], _ :: _ => by simp [PyData.eqvAll]
  | _ :: _, [] => by simp [PyData.eqvAll]
theorem dpAll_ints {K : PySem.W.Frag} {H : Hp} : ∀ ns : List Int, DpAll K H (ns.map V.int) (ns.map PyData.int)
  | [] => .nil
  | n :: ns => .cons (.int n) (dpAll_ints ns)
theorem Dp.ints {K : PySem.W.Frag} {H : Hp} {a : Addr} {ns : List Int} (h : SqL K H a (ns.map V.int)) : Dp K H (.ref a) (.list (ns.map PyData.int)) := .lst h (dpAll_ints ns)
theorem eqv_list_ints (ns ms : List Int) : PyData.eqv (.list (ns.map PyData.int)) (.list (ms.map PyData.int)) = decide (ns = ms) := eqv_ints ns ms
theorem map_cut (ns : List Int) (lo hi : Option Int) : cutV (ns.map V.int) lo hi = ((ns.drop (HT.sIx ns.length 0 lo)).take (HT.sIx ns.length ns.length hi - HT.sIx ns.length 0 lo)).map V.int := by
  unfold cutV
  rw [List.length_map, List.map_take, List.map_drop]
end L2
set_option Elab.async false
set_option linter.all false
set_option maxRecDepth 100000
namespace L2
open PySem PySem.Spec PyProof.Rows
theorem str_ext {x y : Str} (h : x.cps.toList = y.cps.toList) : x = y := by
  cases x; cases y; congr 1; exact Array.toList_inj.mp h
theorem len_cps (x : Str) : x.length = x.cps.toList.length := by show x.cps.size = _; rw [Array.length_toList]
theorem app_cps (x y : Str) : (x ++ y).cps.toList = x.cps.toList ++ y.cps.toList := by
  show (x.cps ++ y.cps).toList = _
  rw [Array.toList_append]
theorem rev_cps (x : Str) : (revS x).cps.toList = x.cps.toList.reverse := by simp [revS]
theorem cut_cps (x : Str) (lo hi : Option Int) : (cutS x lo hi).cps.toList = (x.cps.toList.drop (HT.sIx x.length 0 lo)).take (HT.sIx x.length x.length hi - HT.sIx x.length 0 lo) := by simp [cutS]
theorem IsRow.app {x y : Str} (h : IsRow x) (h' : IsRow y) : IsRow (x ++ y) := fun c hc => by
  rw [app_cps] at hc
  rcases List.mem_append.mp hc with q | q
  · exact h c q
  · exact h' c q
theorem IsRow.rev {x : Str} (h : IsRow x) : IsRow (revS x) := fun c hc => by
  rw [rev_cps] at hc
  exact h c (List.mem_reverse.mp hc)
theorem IsRow.cut {x : Str} (h : IsRow x) (lo hi : Option Int) : IsRow (cutS x lo hi) := fun c hc => by
  rw [cut_cps] at hc
  exact h c (List.mem_of_mem_drop (List.mem_of_mem_take hc))
theorem sIx_pos (n d : Nat) {v : Int} (h : 0 ≤ v) : HT.sIx n d (some v) = min v.toNat n := by
  have e : v = ((v.toNat : Nat) : Int) := by omega
  rw [e, HT.sIx_nat]; congr 1
/-- x[:v], 0 ≤ v -/
theorem cut_to (x : Str) {v : Int} (h : 0 ≤ v) : (cutS x none (some v)).cps.toList = x.cps.toList.take v.toNat := by
  rw [cut_cps, HT.sIx_none, sIx_pos _ _ h, List.drop_zero, Nat.sub_zero, List.take_eq_take_iff, len_cps]
  omega
/-- x[v:], 0 ≤ v -/
theorem cut_from (x : Str) {v : Int} (h : 0 ≤ v) : (cutS x (some v) none).cps.toList = x.cps.toList.drop v.toNat := by
  rw [cut_cps, HT.sIx_none, sIx_pos _ _ h, len_cps]
  rw [List.take_of_length_le (by rw [List.length_drop]; exact Nat.le_refl _)]
  by_cases q : v.toNat ≤ x.cps.toList.length
  · rw [Nat.min_eq_left q]
  · rw [Nat.min_eq_right (by omega), List.drop_length, List.drop_eq_nil_of_le (by omega)]
/-- one sign -/
def sg (c : Nat) : Str := ⟨#[c]⟩
theorem glued_eq_joinX (y : Str) (parts : List Str) : Txt.join y parts = Str.join y parts := TL.join_eq y parts
theorem join_sg : ∀ cs : List Nat, (Txt.join "" (cs.map sg)).cps.toList = cs := by
  intro cs
  rw [glued_eq_joinX]
  have key : ∀ cs : List Nat, (Str.join "" (cs.map sg)).cps.toList = cs := by
    intro cs
    induction cs with
    | nil => rfl
    | cons c cs ih =>
      cases cs with
      | nil => rfl
      | cons d ds =>
        show ((sg c ++ ("" : Str)) ++ Str.join "" ((d :: ds).map sg)).cps.toList = _
        rw [app_cps, ih, app_cps]
        rfl
  exact key cs
theorem sum_sg (cs : List Nat) : ((cs.map sg).map (·.length)).sum = cs.length := by
  induction cs with
  | nil => rfl
  | cons c cs ih => rw [List.map_cons, List.map_cons, List.sum_cons, ih]; show 1 + cs.length = _; rw [List.length_cons]; omega
theorem at_in {α : Type} {xs : List α} {v : Int} (h0 : 0 ≤ v) (h1 : v < xs.length) : ∃ x, x ∈ xs ∧ xs[v.toNat]? = some x ∧ atI xs v = some x := by
  have hk : v.toNat < xs.length := by omega
  have e : v = ((v.toNat : Nat) : Int) := by omega
  have q : xs[v.toNat]? = some xs[v.toNat] := List.getElem?_eq_getElem hk
  refine ⟨xs[v.toNat], List.getElem_mem hk, q, ?_⟩
  have := atI_nat q
  rw [← e] at this
  exact this
theorem small80 {n : Nat} (h : n ≤ 100000) : n ≤ sizeLine := Nat.le_trans h (by decide)
end L2
set_option Elab.async false
set_option linter.all false
set_option maxRecDepth 100000
namespace L2
open PySem PySem.Spec PyProof.Rows
structure CalleeM (P : Program) (w : World) (K : PySem.W.Frag) (mg : Str → Option Value) (base : Heap) (k : Nat) (C : Addr) (m : Str) (ps : List Str) (sp : Sp) where
  f : Addr
  fd : FuncData
  ok : FnOk P w K mg base CX0 k f fd ps sp
  cl : Cls K C
  me : Meth K C m f
  bd : Binds K fd ps []
structure CalleeI (P : Program) (w : World) (K : PySem.W.Frag) (mg : Str → Option Value) (base : Heap) (k : Nat) (C : Addr) (x : Str) (ps : List Str) (sp : Sp) where
  f : Addr
  fd : FuncData
  ok : FnOk P w K mg base CX0 k f fd ps sp
  mk_ : Mk K C f
  at_ : mg x = some (.ref C)
  bd : Binds K fd ps []
def nxtL : List Nat → Nat → Str → Option Nat
  | [], _, _ => none
  | c :: cs, k, x => if sg c = x then some k else nxtL cs (k + 1) x
def nxt (cs : List Nat) (i : Nat) (x : Str) : Option Nat := nxtL (cs.drop i) i x
def optV : Option Nat → V
  | none => .non
  | some j => .int j
end L2
set_option Elab.async false
set_option linter.all false
set_option maxRecDepth 100000
namespace L2
open PySem PySem.Spec PyProof.Rows
/-- what stands behind the first c -/
def aft (c : Nat) : List Nat → Option (List Nat)
  | [] => none
  | x :: xs => if x = c then some xs else aft c xs
/-- what stands ahead of the last c -/
def bef (c : Nat) : List Nat → Option (List Nat)
  | [] => none
  | x :: xs => match bef c xs with
    | some r => some (x :: r)
    | none => if x = c then some [] else none
theorem aft_cons (c x : Nat) (xs : List Nat) : aft c (x :: xs) = if x = c then some xs else aft c xs := rfl
theorem aft_len {c : Nat} : ∀ {xs r : List Nat}, aft c xs = some r → r.length < xs.length
  | [], r, h => by cases h
  | x :: xs, r, h => by
    unfold aft at h
    split at h
    · cases h; exact Nat.lt_succ_self _
    · exact Nat.lt_succ_of_lt (aft_len h)
theorem aft_none {c : Nat} : ∀ {xs : List Nat}, aft c xs = none ↔ c ∉ xs
  | [] => by simp [aft]
  | x :: xs => by
    unfold aft
    by_cases h : x = c
    · simp [h]
    · rw [if_neg h, aft_none, List.mem_cons, not_or]
      exact ⟨fun q => ⟨fun z => h z.symm, q⟩, fun q => q.2⟩
theorem aft_sub {c : Nat} : ∀ {xs r : List Nat}, aft c xs = some r → ∀ y ∈ r, y ∈ xs
  | [], r, h => by cases h
  | x :: xs, r, h => by
    unfold aft at h
    split at h
    · cases h; exact fun y hy => List.mem_cons_of_mem _ hy
    · exact fun y hy => List.mem_cons_of_mem _ (aft_sub h y hy)
theorem bef_sub {c : Nat} : ∀ {xs r : List Nat}, bef c xs = some r → ∀ y ∈ r, y ∈ xs
  | [], r, h => by cases h
  | x :: xs, r, h => by
    unfold bef at h
    split at h
    · rename_i q hq
      cases h
      intro y hy
      rcases List.mem_cons.mp hy with e | hy
      · rw [e]; exact List.mem_cons_self
      · exact List.mem_cons_of_mem _ (bef_sub hq y hy)
    · split at h
      · cases h; exact fun y hy => nomatch hy
      · cases h
/-- how many of a length -/
def dn : List Nat → Nat → Int
  | _, 0 => 1
  | [], _ + 1 => 0
  | c :: cs, n + 1 => dn cs (n + 1) + dn cs n - (match _h : aft c cs with | none => 0 | some r => dn r n)
termination_by xs n => (xs.length, n)
decreasing_by
  · apply Prod.Lex.left; exact Nat.lt_succ_self _
  · apply Prod.Lex.left; exact Nat.lt_succ_self _
  · apply Prod.Lex.left; exact Nat.lt_succ_of_lt (aft_len _h)
def oI (f : List Nat → Int) (o : Option (List Nat)) : Int := match o with | none => 0 | some r => f r
/-- how many in all -/
def mn : List Nat → Int
  | [] => 1
  | c :: cs => 2 * mn cs - (match _h : aft c cs with | none => 0 | some r => mn r)
termination_by xs => xs.length
decreasing_by
  · exact Nat.lt_succ_self _
  · exact Nat.lt_succ_of_lt (aft_len _h)
def sumTo (f : Nat → Int) : Nat → Int
  | 0 => 0
  | m + 1 => sumTo f m + f m
end L2
set_option Elab.async false
set_option linter.all false
set_option maxRecDepth 100000
namespace L2
open PySem PySem.Spec PyProof.Rows
def IteS (x : Str) : It :=
  ⟨fun i _ => i < x.cps.size, fun i H v H' => ∃ T c, v = .ref T ∧ H T = none ∧ x.cps[i]? = some c ∧ H' = upd H T (.tup [.int (i : Nat), .str ⟨#[c]⟩]), fun i _ => x.cps.size ≤ i⟩
def drawsS {prog : Program} {w : World} {A : Around} (hh : A.handled = none) (it : Addr) (x : Str) (t : Tok) (ty : String) (hty : ty = "str_ascii_iterator" ∨ ty = "str_iterator") :
    Draws prog w A it [it] x.cps.size (fun i v => ∃ c u, x.cps[i]? = some c ∧ v = .str ⟨#[c]⟩ u) (fun i h => h.IsStrIter it ty x t i) := by
  rcases hty with e | e
  · rw [e]; exact Draws.strAscii hh it x t
  · rw [e]; exact Draws.strWide hh it x t
theorem turn_enumS {P : Program} {w : World} {K : PySem.W.Frag} {elts : List Expr} {kk : Nat} {tpos : Pos} (x : Str) (t : Tok) (ty : String) (hty : ty = "str_ascii_iterator" ∨ ty = "str_iterator") (e it : Addr) :
    Turn P w K (.Tuple elts kk tpos) (IteS x) [e, it] e (fun i h => (i ≤ x.cps.size ∧ ∃ old, IsEnum h e it ((i : Nat) : Int) old) ∧ h.IsStrIter it ty x t i ∧ e ≠ it) where
  mem := by simp
  obj := fun i h st b hb => by
    obtain ⟨⟨_, old, he⟩, ⟨o, ho, hc, hd⟩, _⟩ := st
    have e' : b = e ∨ b = it := by simpa using hb
    rcases e' with z | z
    · rw [z]; exact ⟨_, he, fun v q => nomatch q⟩
    · rw [z]; exact ⟨o, ho, fun v q => by rw [hd] at q; cases q⟩
  keep := fun i h h' st k => let ⟨⟨hi, old, he⟩, ⟨o, ho, r⟩, hne⟩ := st; ⟨⟨hi, old, k e (by simp) _ he⟩, ⟨o, k it (by simp) o ho, r⟩, hne⟩
  item := by
    intro X hP hw hK hc i pins s σ H E I hf st hg
    subst hP hw hK
    obtain ⟨⟨_, old, he⟩, hit, hne⟩ := st
    have hlt : i < x.cps.size := hg
    have hel : e < s.heap.objs.size := Heap.lt_size he
    have hil : it < s.heap.objs.size := by obtain ⟨_, q, _⟩ := hit; exact Heap.lt_size q
    refine wpAny_pyNext_enum_itemD (drawsS (A := X.A.in1) (I.ok.hd hc) it x t ty hty) he hit hlt hne (by simpa using hne) fun y h' tk hv ho hit' hT hsz hk => ?_
    obtain ⟨c, u, hcx, rfl⟩ := hv
    refine ⟨_, rfl, wpAny_letOwnedTupleGo_enum (s := { s with heap := h', toks := tk + 1 }) ho fun h'' he' sb => ?_⟩
    have hT2 : h''.get? s.heap.objs.size = some { cls := .type "tuple", data := .seq #[.int i tk, .str ⟨#[c]⟩ u] } := (sb.2 _ (Nat.ne_of_gt hel)).trans hT
    have new : ObjOk X.prog X.w (upd H s.heap.objs.size (.tup [.int (i : Nat), .str ⟨#[c]⟩])) h'' s.heap.objs.size (.tup [.int (i : Nat), .str ⟨#[c]⟩]) :=
      ⟨by show 2 ≤ sizeLine; decide, [.int i tk, .str ⟨#[c]⟩ u], .cons ⟨_, rfl⟩ (.cons ⟨_, rfl⟩ .nil), ⟨_, hT2, rfl, _, rfl⟩⟩
    have I1 : Inv X pins σ (upd H s.heap.objs.size (.tup [.int (i : Nat), .str ⟨#[c]⟩])) { s with heap := h'', toks := tk + 1 } :=
      I.turnedNew (ch := [e, it]) (fun b ob hb q => (sb.2 b (fun z => hb (by simp [z]))).trans (hk b ob (fun z => hb (by simp [z])) (fun z => hb (by simp [z])) q)) hf (Nat.le_refl _) new
    refine ⟨.ref s.heap.objs.size, _, I1, rfl, ⟨_, c, rfl, I.hok.fresh (Nat.le_refl _), hcx, rfl⟩, ⟨⟨hlt, .str ⟨#[c]⟩ u, ?_⟩, ?_, hne⟩, fun b hb => ?_⟩
    · have e1 : ((i + 1 : Nat) : Int) = (i : Int) + 1 := by omega
      rw [e1]; exact he'
    · obtain ⟨o, q, r⟩ := hit'
      exact ⟨o, (sb.2 it (Ne.symm hne)).trans q, r⟩
    · have hb' : b < s.heap.objs.size := by
        have e' : b = e ∨ b = it := by simpa using hb
        rcases e' with z | z
        · rw [z]; exact hel
        · rw [z]; exact hil
      rw [upd_ne (Nat.ne_of_lt hb')]
      exact (hf b hb).1
  done := by
    intro X hP hw hK hc i pins s σ H E I hf st hg
    subst hP hw hK
    obtain ⟨⟨hi, old, he⟩, hit, hne⟩ := st
    have hge : x.cps.size ≤ i := hg
    have ei : i = x.cps.size := Nat.le_antisymm hi hge
    obtain ⟨f0, f1, f2, f3, f4, f5⟩ := hf it (by simp)
    rw [ei] at hit
    exact wpAny_pyNext_enum_endD (drawsS (A := X.A.in1) (I.ok.hd hc) it x t ty hty) he hit fun h' eb => ⟨rfl, I.turned (t' := s.toks) (fun b o hb q => eb b o hb q) f0 f1 f3 f4 f5⟩
  self := fun A i s Q E st h => let ⟨⟨_, _, he⟩, _⟩ := st; wpAny_pyIter_enum he h
theorem strIterType_of (x : Str) : strIterType x = "str_ascii_iterator" ∨ strIterType x = "str_iterator" := by
  unfold strIterType; split
  · exact .inl rfl
  · exact .inr rfl
def iEnumS (ta : TA) : TI := fun σ H R => ta σ H fun vs H1 => ∃ x, vs = [.str x] ∧ R (IteS x) H1
theorem pi_enumS {X : Cx} {e : Expr} {ta : TA} {p pos tpos : Pos} {elts : List Expr} {kk : Nat} (hg : Gl X "enumerate") (hm : X.mg "enumerate" = none) (ha : PA X [e] ta) (hs : starEach [e] X.env = [(false, eval e X.env)] := by rfl) :
    PI X (.Tuple elts kk tpos) (.Call (.Name "enumerate" p) [e] [] pos) (iEnumS ta) := by
  intro pins s σ H R I h
  refine Call_ (ld_blt I hg hm boot_enumerate (PyProof.Rows.callWith_type1 (thn (ha pos pins s σ H _ I h) fun us s1 ⟨vs, H1, I1, r1, q1⟩ => ?_) hs rfl))
  obtain ⟨x, ex, q⟩ := q1
  subst ex
  cases r1 with
  | cons r rr =>
    cases rr
    obtain ⟨t, rfl⟩ := r
    refine call_enumerate_str fun h' he hit hsz hk => wpAny_pyIter_enum he ?_
    have I2 : Inv X pins σ H1 { s1 with heap := h' } := I1.kept (t' := s1.toks) hk
    refine ⟨s1.heap.objs.size + 1, [s1.heap.objs.size + 1, s1.heap.objs.size], _, _, H1, rfl, I2, turn_enumS x t _ (strIterType_of x) (s1.heap.objs.size + 1) s1.heap.objs.size, ⟨⟨Nat.zero_le _, .none, he⟩, hit, Nat.succ_ne_self _⟩, fun b hb => ?_, q⟩
    have e' : b = s1.heap.objs.size + 1 ∨ b = s1.heap.objs.size := by simpa using hb
    have hle : s1.heap.objs.size ≤ b := by
      rcases e' with z | z
      · rw [z]; exact Nat.le_add_right _ _
      · rw [z]; exact Nat.le_refl _
    exact I1.fpOk hle (I1.hok.fresh hle)
end L2
set_option Elab.async false
set_option linter.all false
set_option maxRecDepth 100000
namespace L2
open PySem PySem.Spec PyProof.Rows
end L2
set_option Elab.async false
set_option linter.all false
set_option maxRecDepth 100000
namespace L2
open PySem PySem.Spec PyProof.Rows
def revSObj (x : Str) (t : Tok) (i : Int) : Obj := { cls := .type "reversed", data := .fields #[.str x t, rawInt i] }
def IsRevS (h : Heap) (a : Addr) (x : Str) (t : Tok) (i : Int) : Prop := h.get? a = some (revSObj x t i)
section
variable {prog : Program} {w : World} {A : Around} {E : Value → Shared → Prop} {s : Shared}
theorem IsRevS.typeIs {a : Addr} {x : Str} {t : Tok} {i : Int} (h : IsRevS s.heap a x t i) : s.TypeIs (.ref a) "reversed" := ⟨_, h, rfl⟩
end
/-- the signs of a text from behind -/
def ItsR (x : Str) : It := ⟨fun i _ => i < x.cps.size, fun i H v H' => H' = H ∧ ∃ c, x.cps[x.cps.size - 1 - i]? = some c ∧ v = .str ⟨#[c]⟩, fun i _ => x.cps.size ≤ i⟩
def iRevS (ta : TA) : TI := fun σ H R => ta σ H fun vs H1 => ∃ x : Str, vs = [.str x] ∧ x.length ≤ sizeLine ∧ R (ItsR x) H1
end L2
set_option Elab.async false
set_option linter.all false
set_option maxRecDepth 100000
namespace L2
open PySem PySem.Spec PyProof.Rows
end L2
set_option Elab.async false
set_option linter.all false
namespace L2
open PySem
/-- in how many ways ys is left of xs -/
def wys : List Nat → List Nat → Nat
  | _, [] => 1
  | [], _ :: _ => 0
  | x :: xs, y :: ys => wys xs (y :: ys) + if x = y then wys xs ys else 0
/-- a list of ints, by a function of the place -/
def tabI (k : Nat) (f : Nat → Int) : List V := (List.range k).map fun i => V.int (f i)
theorem tabI_congr {k : Nat} {f g : Nat → Int} (h : ∀ i, i < k → f i = g i) : tabI k f = tabI k g :=
  List.map_congr_left fun i hi => by rw [h i (List.mem_range.mp hi)]
/-- the ways from each place on, of a row's codes -/
def wsuf (xs t : List Nat) : List V := tabI (xs.length + 1) (fun p => (wys (xs.drop p) t : Int))
/-- the ways of each beginning -/
def wpre (xs ys : List Nat) : List V := tabI (ys.length + 1) (fun j => (wys xs (ys.take j) : Int))
end L2
set_option Elab.async false
set_option linter.all false
set_option maxRecDepth 100000
namespace L2
open PySem PySem.Spec PyProof.Rows
/-- xs[i] of a list, by values, 0 ≤ i -/
def gGetL (K : PySem.W.Frag) : V → V → Hp → VK → Prop := fun x y H Q => ∃ p xs i v, x = .ref p ∧ y = .int i ∧ SqL K H p xs ∧ 0 ≤ i ∧ atI xs i = some v ∧ Q v H
theorem ix_tupK {X : Cx} {K : PySem.W.Frag} (h : X.K = K) : IxR X (rIxT K) := h ▸ ix_tup
end L2
set_option Elab.async false
set_option linter.all false
set_option maxRecDepth 100000
namespace L2
open PySem PySem.Spec PyProof.Rows
theorem snoc_get {α : Type} {xs : List α} {x y : α} {j : Nat} (h : (xs ++ [x])[j]? = some y) : xs[j]? = some y ∨ (j = xs.length ∧ y = x) := by
  by_cases hj : j < xs.length
  · rw [List.getElem?_append_left hj] at h; exact .inl h
  · have : j = xs.length := by
      have := (List.getElem?_eq_some_iff.mp h).1
      rw [List.length_append, List.length_singleton] at this
      omega
    subst this
    rw [List.getElem?_append_right (Nat.le_refl _), Nat.sub_self] at h
    exact .inr ⟨rfl, by simpa using h.symm⟩
def spWith : Sp := fun vs H Q _ => ∃ (z : Str) (c : Nat) (t : List Nat) (p : Addr), vs = [.str z, .str (sg c), .ref p] ∧ z.length ≤ 200 ∧ H p = some (.lst (wsuf z.cps.toList t)) ∧ ∀ (l : Addr) (H' : Hp), Same H H' → H l = none → H' l = some (.lst (wsuf z.cps.toList (c :: t))) → Q (.ref l) H'
def spFrom : Sp := fun vs H Q _ => ∃ z y : Str, vs = [.str z, .str y] ∧ z.length ≤ 200 ∧ y.length ≤ 200 ∧ ∀ (l : Addr) (rs : List Addr) (H' : Hp), Same H H' → H l = none → H' l = some (.lst (rs.map V.ref)) → rs.length = y.cps.toList.length + 1 → (∀ (j : Nat) (r : Addr), rs[j]? = some r → r ≠ l ∧ H' r = some (.lst (wsuf z.cps.toList (y.cps.toList.drop j)))) → Q (.ref l) H'
def spMany : Sp := fun vs H Q _ => ∃ z y : Str, vs = [.str z, .str y] ∧ z.length ≤ 200 ∧ y.length ≤ 200 ∧ ∀ H' : Hp, Same H H' → Q (.int (wys z.cps.toList y.cps.toList : Nat)) H'
def spWaysL : Sp := fun vs H Q _ => ∃ z y : Str, vs = [.str z, .str y] ∧ z.length ≤ 200 ∧ y.length ≤ 200 ∧ ∀ (l : Addr) (rs : List Addr) (H' : Hp), Same H H' → H' l = some (.lst (rs.map V.ref)) → rs.length = z.cps.toList.length + 1 → (∀ (j : Nat) (r : Addr), rs[j]? = some r → H' r = some (.lst (wpre (z.cps.toList.take j) y.cps.toList))) → Q (.ref l) H'
end L2
set_option Elab.async false
set_option linter.all false
set_option maxRecDepth 100000
namespace L2
open PySem PySem.Spec PyProof.Rows
def idx (c : Nat) : List Nat → Option Nat
  | [] => none
  | x :: xs => if x = c then some 0 else (idx c xs).map (· + 1)
theorem aft_idx (c : Nat) : ∀ xs : List Nat, aft c xs = (idx c xs).map fun j => xs.drop (j + 1)
  | [] => rfl
  | x :: xs => by
    rw [aft_cons]
    show _ = (if x = c then some 0 else (idx c xs).map (· + 1)).map _
    by_cases h : x = c
    · rw [if_pos h, if_pos h]; rfl
    · rw [if_neg h, if_neg h, aft_idx c xs, Option.map_map]; rfl
theorem idx_lt {c : Nat} : ∀ {xs : List Nat} {j : Nat}, idx c xs = some j → j < xs.length
  | [], j, h => by cases h
  | x :: xs, j, h => by
    have h' : (if x = c then some 0 else (idx c xs).map (· + 1)) = some j := h
    by_cases e : x = c
    · rw [if_pos e] at h'; cases h'; exact Nat.succ_pos _
    · rw [if_neg e] at h'
      obtain ⟨i, hi, rfl⟩ := Option.map_eq_some_iff.mp h'
      exact Nat.succ_lt_succ (idx_lt hi)
/-- the dict of next places from p on -/
def entK : List Nat → Nat → List (Key × V)
  | [], _ => []
  | c :: cs, p => putK (entK cs (p + 1)) (Sum.inr (sg c)) (.int (p : Nat))
theorem sg_inj' {a b : Nat} (h : sg a = sg b) : a = b := by
  have e := congrArg (fun s : Str => s.cps.toList) h
  have e2 : [a] = [b] := e
  cases e2; rfl
theorem entK_val (c : Nat) : ∀ (cs : List Nat) (p : Nat), valV (entK cs p) (Sum.inr (sg c)) = (idx c cs).map fun j => V.int ((p + j : Nat) : Int)
  | [], _ => rfl
  | x :: xs, p => by
    show valV (putK (entK xs (p + 1)) (Sum.inr (sg x)) (.int (p : Nat))) _ = (if x = c then some 0 else (idx c xs).map (· + 1)).map _
    rw [valV_put]
    by_cases h : x = c
    · rw [if_pos (by rw [h]), if_pos h]; rfl
    · rw [if_neg (fun z => h (sg_inj' (Sum.inr.inj z)).symm), if_neg h, entK_val c xs (p + 1), Option.map_map]
      congr 1
      funext j
      show V.int ((p + 1 + j : Nat) : Int) = V.int ((p + (j + 1) : Nat) : Int)
      congr 2
      omega
theorem putK_len' (kvs : List (Key × V)) (k : Key) (v : V) : (putK kvs k v).length ≤ kvs.length + 1 := by
  unfold putK
  split
  · rw [List.length_map]; omega
  · rw [List.length_append, List.length_singleton]; omega
theorem entK_len : ∀ (cs : List Nat) (p : Nat), (entK cs p).length ≤ cs.length
  | [], _ => Nat.le_refl _
  | c :: cs, p => Nat.le_trans (putK_len' _ _ _) (Nat.succ_le_succ (entK_len cs (p + 1)))
theorem mem_put {kvs : List (Key × V)} {k : Key} {v : V} {kv : Key × V} (h : kv ∈ putK kvs k v) : kv ∈ kvs ∨ kv = (k, v) := by
  unfold putK at h
  split at h
  · obtain ⟨q, hq, e⟩ := List.mem_map.mp h
    by_cases z : q.1 = k
    · rw [if_pos z] at e; exact .inr (by rw [← e, z])
    · rw [if_neg z] at e; exact .inl (e ▸ hq)
  · rcases List.mem_append.mp h with h | h
    · exact .inl h
    · exact .inr (List.mem_singleton.mp h)
theorem entK_mem : ∀ (cs : List Nat) (p : Nat) (kv : Key × V), kv ∈ entK cs p → ∃ (j c : Nat), cs[j]? = some c ∧ kv = (Sum.inr (sg c), V.int ((p + j : Nat) : Int))
  | [], _, kv, h => nomatch h
  | c :: cs, p, kv, h => by
    rcases mem_put h with h | h
    · obtain ⟨j, d, hj, e⟩ := entK_mem cs (p + 1) kv h
      refine ⟨j + 1, d, hj, ?_⟩
      have : p + 1 + j = p + (j + 1) := by omega
      rw [e, this]
    · exact ⟨0, c, rfl, h⟩
def keysU (kvs : List (Key × V)) : Prop := (kvs.map (·.1)).Nodup
theorem keysU_put {kvs : List (Key × V)} (h : keysU kvs) (k : Key) (v : V) : keysU (putK kvs k v) := by
  unfold putK
  split
  · unfold keysU
    rw [List.map_map]
    have : (fun kv : Key × V => kv.1) ∘ (fun kv : Key × V => if kv.1 = k then (kv.1, v) else kv) = fun kv => kv.1 := by
      funext kv
      show (if kv.1 = k then (kv.1, v) else kv).1 = kv.1
      split <;> rfl
    rw [this]; exact h
  · rename_i a
    unfold keysU
    rw [List.map_append]
    refine List.nodup_append.mpr ⟨h, by simp, fun x hx y hy => ?_⟩
    have hy' : y = k := by simpa using hy
    intro e
    subst e
    refine a ?_
    obtain ⟨kv, hkv, e⟩ := List.mem_map.mp hx
    rw [List.any_eq_true]
    exact ⟨kv, hkv, decide_eq_true (by rw [← hy']; exact e)⟩
theorem entK_u : ∀ (cs : List Nat) (p : Nat), keysU (entK cs p)
  | [], _ => List.nodup_nil
  | c :: cs, p => keysU_put (entK_u cs (p + 1)) _ _
def gv (g : Nat → Int) : V → Int
  | .int i => g i.toNat
  | _ => 0
def sumV (g : Nat → Int) (kvs : List (Key × V)) : Int := (kvs.map fun kv => gv g kv.2).sum
structure TabX (H : Hp) (cs : List Nat) (refs : List Addr) : Prop where
  len : refs.length = cs.length + 1
  at_ : ∀ (i : Nat) (r : Addr), refs[i]? = some r → H r = some (.dK (entK (cs.drop i) i))
theorem TabX.same {H H' : Hp} {cs : List Nat} {refs : List Addr} (h : TabX H cs refs) (s : Same H H') : TabX H' cs refs := ⟨h.len, fun i r e => s _ _ (h.at_ i r e)⟩
def spTabX : Sp := fun vs H Q _ => ∃ z : Str, vs = [.str z] ∧ z.length ≤ 200 ∧ ∀ (l : Addr) (refs : List Addr) (H' : Hp), Same H H' → H l = none → H' l = some (.lst (refs.map V.ref)) → TabX H' z.cps.toList refs → Q (.ref l) H'
structure TabXI (H0 H : Hp) (cs : List Nat) (t : Nat) (d l : Addr) (refs : List Addr) : Prop where
  sm : Same H0 H
  nl : H0 l = none
  lst : H l = some (.lst (refs.map V.ref))
  len : refs.length = t + 1
  last : refs[t]? = some d
  at_ : ∀ (j : Nat) (r : Addr), refs[j]? = some r → r ≠ l ∧ H r = some (.dK (entK (cs.drop (cs.length - j)) (cs.length - j)))
theorem tabX_turn {H0 H : Hp} {cs : List Nat} {t : Nat} {d l p : Addr} {refs : List Addr} {kvs : List (Key × V)} {c : Nat} (I : TabXI H0 H cs t d l refs) (hp : H p = none) (hd : H d = some (.dK kvs)) (ht : t < cs.length) (hc : cs[cs.length - 1 - t]? = some c) :
    TabXI H0 (upd (upd (upd H p (.dK kvs)) p (.dK (putK kvs (Sum.inr (sg c)) (.int ((cs.length - 1 - t : Nat) : Int))))) l (.lst (refs.map V.ref ++ [.ref p]))) cs (t + 1) p l (refs ++ [p]) := by
  have pl : p ≠ l := (ne_of_none I.lst hp).symm
  have hl0 := I.nl
  refine ⟨fun b o e => ?_, I.nl, ?_, by rw [List.length_append, I.len]; rfl, ?_, fun j r e => ?_⟩
  · rw [upd_ne (ne_of_none e hl0)]
    have := I.sm b o e
    rw [upd_ne (ne_of_none this hp), upd_ne (ne_of_none this hp)]; exact this
  · rw [upd_same, List.map_append]; rfl
  · rw [List.getElem?_append_right (by rw [I.len]; exact Nat.le_refl _), I.len, Nat.sub_self]; rfl
  · by_cases hj : j < refs.length
    · rw [List.getElem?_append_left hj] at e
      obtain ⟨h1, h2⟩ := I.at_ j r e
      exact ⟨h1, by rw [upd_ne h1, upd_ne (ne_of_none h2 hp), upd_ne (ne_of_none h2 hp)]; exact h2⟩
    · have ej : j = refs.length := by
        have := (List.getElem?_eq_some_iff.mp e).1
        rw [List.length_append, List.length_singleton] at this
        omega
      subst ej
      rw [List.getElem?_append_right (Nat.le_refl _), Nat.sub_self] at e
      have er : p = r := by simpa using e
      subst er
      obtain ⟨_, h2⟩ := I.at_ t d I.last
      rw [hd] at h2
      cases h2
      refine ⟨pl, ?_⟩
      rw [upd_ne pl, upd_same, I.len]
      have e1 : cs.length - (t + 1) = cs.length - 1 - t := by omega
      have e2 : cs.length - t = cs.length - 1 - t + 1 := by omega
      obtain ⟨hlt, hge⟩ := List.getElem?_eq_some_iff.mp hc
      rw [e1, e2, List.drop_eq_getElem_cons hlt, hge]
      rfl
def spManyFrom : Sp := fun vs H Q _ => ∃ (l : Addr) (refs : List Addr) (cs : List Nat), vs = [.ref l] ∧ H l = some (.lst (refs.map V.ref)) ∧ TabX H cs refs ∧ cs.length ≤ 200 ∧ ∀ (m : Addr) (H' : Hp), Same H H' → H m = none → H' m = some (.lst (tabI (cs.length + 1) fun i => mn (cs.drop i))) → Q (.ref m) H'
def spManyLeft : Sp := fun vs H Q _ => ∃ z : Str, vs = [.str z] ∧ z.length ≤ 200 ∧ ∀ H' : Hp, Same H H' → Q (.int (mn z.cps.toList)) H'
def dsuf (cs : List Nat) (n : Nat) : List V := tabI (cs.length + 1) fun i => dn (cs.drop i) n
def spOneLonger : Sp := fun vs H Q _ => ∃ (z : Str) (l p : Addr) (refs : List Addr) (n : Nat), vs = [.str z, .ref l, .ref p] ∧ z.length ≤ 200 ∧ H l = some (.lst (refs.map V.ref)) ∧ TabX H z.cps.toList refs ∧ H p = some (.lst (dsuf z.cps.toList n)) ∧
  ∀ (m : Addr) (H' : Hp), Same H H' → H m = none → H' m = some (.lst (dsuf z.cps.toList (n + 1))) → Q (.ref m) H'
def spManyOfL : Sp := fun vs H Q _ => ∃ (z : Str) (l : Addr) (refs : List Addr), vs = [.str z, .ref l] ∧ z.length ≤ 200 ∧ H l = some (.lst (refs.map V.ref)) ∧ TabX H z.cps.toList refs ∧
  ∀ (m : Addr) (rs : List Addr) (H' : Hp), Same H H' → H m = none → H' m = some (.lst (rs.map V.ref)) → rs.length = z.cps.toList.length + 1 → (∀ (n : Nat) (r : Addr), rs[n]? = some r → r ≠ m ∧ H' r = some (.lst (dsuf z.cps.toList n))) → Q (.ref m) H'
def spByLengths : Sp := fun vs H Q _ => ∃ z : Str, vs = [.str z] ∧ z.length ≤ 200 ∧ ∀ (m : Addr) (H' : Hp), Same H H' → H m = none → H' m = some (.lst (tabI (z.cps.toList.length + 1) (dn z.cps.toList))) → Q (.ref m) H'
end L2
set_option Elab.async false
set_option linter.all false
set_option maxRecDepth 100000
namespace L2
open PySem PySem.Spec PyProof.Rows
section
variable {X : Cx} {es : List Expr} {te : TE} {t : TA}
theorem pa_Const {c1 : Const} {c2 : Nat} {c3 : Pos} (ha : PE X (.Constant c1 c2 c3) te) (hr : PA X es t) : PA X ((.Constant c1 c2 c3) :: es) (tCons te t) := pa_cons ha hr rfl
theorem pa_Name {c1 : Str} {c2 : Pos} (ha : PE X (.Name c1 c2) te) (hr : PA X es t) : PA X ((.Name c1 c2) :: es) (tCons te t) := pa_cons ha hr rfl
theorem pa_BinOp {c1 : Expr} {c2 : Operator} {c3 : Expr} {c4 : Pos} (ha : PE X (.BinOp c1 c2 c3 c4) te) (hr : PA X es t) : PA X ((.BinOp c1 c2 c3 c4) :: es) (tCons te t) := pa_cons ha hr rfl
theorem pa_Compare {c1 : Expr} {c2 : List CmpOp} {c3 : List Expr} {c4 : Pos} (ha : PE X (.Compare c1 c2 c3 c4) te) (hr : PA X es t) : PA X ((.Compare c1 c2 c3 c4) :: es) (tCons te t) := pa_cons ha hr rfl
theorem pa_Call {c1 : Expr} {c2 : List Expr} {c3 : List Keyword} {c4 : Pos} (ha : PE X (.Call c1 c2 c3 c4) te) (hr : PA X es t) : PA X ((.Call c1 c2 c3 c4) :: es) (tCons te t) := pa_cons ha hr rfl
theorem pa_Subscript {c1 c2 : Expr} {c3 : Pos} (ha : PE X (.Subscript c1 c2 c3) te) (hr : PA X es t) : PA X ((.Subscript c1 c2 c3) :: es) (tCons te t) := pa_cons ha hr rfl
theorem pa_Tuple {c1 : List Expr} {c2 : Nat} {c3 : Pos} (ha : PE X (.Tuple c1 c2 c3) te) (hr : PA X es t) : PA X ((.Tuple c1 c2 c3) :: es) (tCons te t) := pa_cons ha hr rfl
theorem pa_ListComp {c1 : Expr} {c2 : List Comprehension} {c3 : Scope} {c4 : Pos} (ha : PE X (.ListComp c1 c2 c3 c4) te) (hr : PA X es t) : PA X ((.ListComp c1 c2 c3 c4) :: es) (tCons te t) := pa_cons ha hr rfl
end
end L2
set_option Elab.async false
set_option linter.all false
set_option maxRecDepth 100000
namespace L2
open PySem PySem.Spec PyProof.Rows
def optI : Option Nat → Int
  | none => -1
  | some j => j
section
variable {X : Cx}
def rFind3 : V → List V → Hp → VK → Prop := fun x xs H Q => ∃ (z : Str) (c : Nat) (i : Int), x = .str z ∧ xs = [.str (sg c), .int i] ∧ 0 ≤ i ∧ Q (.int (optI (nxt z.cps.toList i.toNat (sg c)))) H
def prv (cs : List Nat) : Nat → Str → Option Nat
  | 0, _ => none
  | e + 1, x => if cs[e]?.map sg = some x then some e else prv cs e x
def rRfind4 : V → List V → Hp → VK → Prop := fun x xs H Q => ∃ (z : Str) (c : Nat) (j : Int), x = .str z ∧ xs = [.str (sg c), .int 0, .int j] ∧ 0 ≤ j ∧ j ≤ z.length ∧ Q (.int (optI (prv z.cps.toList j.toNat (sg c)))) H
end
end L2
set_option Elab.async false
set_option linter.all false
set_option maxRecDepth 100000
namespace L2
open PySem
/-- the places from at on that have the letter -/
def spotsN (xs : List Nat) (y : Nat) : Nat → Nat → List Nat
  | _, 0 => []
  | at_, d + 1 => if xs[at_]? = some y then at_ :: spotsN xs y (at_ + 1) d else spotsN xs y (at_ + 1) d
def spots (xs : List Nat) (y at_ : Nat) : List Nat := spotsN xs y at_ (xs.length - at_)
/-- which of the places, and what is left of the number -/
def pkL (F : Nat → Nat) : List Nat → Nat → Option (Nat × Nat)
  | [], _ => none
  | s :: sp, k => if k < F (s + 1) then some (s, k) else pkL F sp (k - F (s + 1))
/-- how many ways begin with a place of [at, at + d) -/
def ahs (xs : List Nat) (y : Nat) (ys : List Nat) (at_ : Nat) : Nat → Nat
  | 0 => 0
  | d + 1 => ahs xs y ys at_ d + if xs[at_ + d]? = some y then wys (xs.drop (at_ + d + 1)) ys else 0
/-- the way of a number -/
def wayP (xs : List Nat) : List Nat → Nat → Nat → Option (List Nat)
  | [], _, _ => some []
  | y :: ys, at_, n => match pkL (fun p => wys (xs.drop p) ys) (spots xs y at_) n with
    | none => none
    | some (s, k) => (wayP xs ys (s + 1) k).map (s :: ·)
/-- what the law tells of a way -/
inductive Way (xs : List Nat) : List Nat → Nat → List Nat → Nat → Prop
  | nil (at_ : Nat) : Way xs [] at_ [] 0
  | cons {y : Nat} {ys : List Nat} {at_ s : Nat} {w : List Nat} {k : Nat} (h1 : at_ ≤ s) (h2 : s < xs.length) (h3 : xs[s]? = some y) (h4 : k < wys (xs.drop (s + 1)) ys) (t : Way xs ys (s + 1) w k) : Way xs (y :: ys) at_ (s :: w) (ahs xs y ys at_ (s - at_) + k)
theorem Way.len {xs ys : List Nat} {at_ : Nat} {w : List Nat} {n : Nat} (h : Way xs ys at_ w n) : w.length = ys.length := by
  induction h with
  | nil => rfl
  | cons _ _ _ _ _ ih => rw [List.length_cons, List.length_cons, ih]
theorem Way.all {xs ys : List Nat} {at_ : Nat} {w : List Nat} {n : Nat} (h : Way xs ys at_ w n) : ∀ s ∈ w, at_ ≤ s ∧ s < xs.length := by
  induction h with
  | nil => exact fun _ h => nomatch h
  | cons h1 h2 h3 h4 t ih =>
    intro s hs
    rcases List.mem_cons.mp hs with rfl | hs
    · exact ⟨h1, h2⟩
    · obtain ⟨a, b⟩ := ih s hs
      exact ⟨by omega, b⟩
end L2
set_option Elab.async false
set_option linter.all false
set_option maxRecDepth 100000
namespace L2
open PySem PySem.Spec PyProof.Rows
def tLR (ta : TA) : TE := fun σ H Q => ta σ H fun vs H1 => ∃ j : Nat, vs = [.int (j : Int)] ∧ j ≤ 10000 ∧ ∀ p, H1 p = none → Q (.ref p) (upd H1 p (.lst (tabI j fun i => (i : Int))))
theorem pg_tupK {X : Cx} {K : PySem.W.Frag} (h : X.K = K) {es : List Expr} {k : Nat} {pos : Pos} {n : Nat} {t : TGs} (hs : PG X (.Tuple es k pos) (gTup X.K n t)) : PG X (.Tuple es k pos) (gTup K n t) := h ▸ hs
end L2
set_option Elab.async false
set_option linter.all false
set_option maxRecDepth 100000
namespace L2
open PySem PySem.Spec PyProof.Rows
def Big (i : Int) : Prop := i.natAbs < 2 ^ 200
theorem Way.fin {xs ys : List Nat} {at_ n : Nat} (h : Way xs ys at_ [] n) : n = 0 := by
  cases h
  rfl
end L2
set_option Elab.async false
set_option linter.all false
namespace L2
open PySem
/-- a new thing, its heap by a name -/
theorem upS {H J : Hp} {p : Addr} {o : HO} (h : upd H p o = J) (n : H p = none) : Same H J := h ▸ same_new n o
theorem upE {H J : Hp} {p : Addr} {o : HO} (h : upd H p o = J) : J p = some o := h ▸ upd_same
/-- a cut behind a test -/
def tCutT (t : TT) : TT := fun σ H Q => ∃ R : Bool → Hp → Prop, t σ H R ∧ ∀ b H', R b H' → Q b H'
theorem pt_cut {X : Cx} {e : Expr} {t : TT} (h : PT X e t) : PT X e (tCutT t) := by
  intro pins s σ H Q I hq
  obtain ⟨R, h1, h2⟩ := hq
  exact thn (h pins s σ H _ I h1) fun b s' ⟨H', I', q⟩ => ⟨H', I', h2 _ _ q⟩
end L2
set_option Elab.async false
set_option linter.all false
set_option maxRecDepth 100000
set_option maxHeartbeats 8000000
namespace Lv
open PySem L2
def top (i : Nat) : Stmt := PySem.Challenge.pw_leavings_k37_whole_parts_otherwise.main.body.getD i (.Pass ⟨0, 0, 0, 0⟩)
section
variable {P : Program} {w : World} {K : PySem.W.Frag} {mg : Str → Option Value} {base : Heap} {f : Addr} {fd : FuncData}
abbrev sNextTable : Stmt := top 1
def nNextTable : List Str := ["row", "ahead", "table", "place"]
theorem scNextTable : FnScope nNextTable ["row"] (defScope sNextTable) := ⟨rfl, rfl, rfl, by decide +kernel, rfl, by decide +kernel, by decide +kernel⟩
theorem ok_tabX (T : Glb mg)  (F : Fun K "next_table" "next_table" sNextTable f fd) : FnOk P w K mg base CX0 1 f fd ["row"] spTabX := by
  refine F.ok scNextTable (fun vs H Q E h => ?_) (fun cdv A outer s H vs Q E hr h => ?_)
  · obtain ⟨z, rfl, _⟩ := h
    rfl
  obtain ⟨z, rfl, hz, q⟩ := h
  have hu := hu_of hr
  refine' ⟨_, ?TT, ?RR⟩
  case TT =>
    refine' pss_cons ?x1 ?x2
    case x1 =>
     refine' ps_set (i := 1) scNextTable.nd rfl (Or.inl rfl) ?x3
     case x3 =>
      exact pe_dnewK
    case x2 =>
     refine' pss_cons ?x4 ?x5
     case x4 =>
      refine' ps_set (i := 2) scNextTable.nd rfl (Or.inl rfl) ?x6
      case x6 =>
       refine' pe_lst ?x7
       case x7 =>
        refine' pa_Name (pv 1) ?x8
        case x8 =>
         exact pa_nil
     case x5 =>
      refine' pss_cons ?x9 ?x10
      case x9 =>
       refine' ps_for PassesOwn.never rfl ?x11 (pg_name (i := 3) scNextTable.nd rfl (Or.inl rfl)) ?x12
       case x11 =>
        refine' pi_revRange rfl T.m_reversed rfl T.m_range ?x13
        case x13 =>
         refine' pa_Call ?x14 ?x15
         case x14 =>
          refine' pe_callB call_len_str rfl T.m_len PySem.boot_len ?x16
          case x16 =>
           refine' pa_Name (pv 0) ?x17
           case x17 =>
            exact pa_nil
         case x15 =>
          exact pa_nil
       case x12 =>
        refine' pss_cons ?x18 ?x19
        case x18 =>
         refine' ps_set (i := 1) scNextTable.nd rfl (Or.inl rfl) ?x20
         case x20 =>
          refine' pe_callTy cr_dictCopy rfl T.m_dict (by decide +kernel) ?x21
          case x21 =>
           refine' pa_Name (pv 1) ?x22
           case x22 =>
            exact pa_nil
        case x19 =>
         refine' pss_cons ?x23 ?x24
         case x23 =>
          refine' ps_dput hu (pv 1) ?x25 (pv 3) rfl
          case x25 =>
           exact (pe_ix ix_str (pv 0) (pv 3) (fun _ _ => rfl))
         case x24 =>
          refine' pss_one ?x26
          case x26 =>
           refine' ps_expr ?x27
           case x27 =>
            refine' pe_bm PySem.F.plainAttrs_list PySem.F.slot_list_append PySem.F.type_list_append mt_append (pv 2) ?x28
            case x28 =>
             refine' pa_Name (pv 1) ?x29
             case x29 =>
              exact pa_nil
      case x10 =>
       refine' pss_cons ?x30 ?x31
       case x30 =>
        refine' ps_expr ?x32
        case x32 =>
         exact (pe_bm0 PySem.F.plainAttrs_list PySem.F.slot_list_reverse PySem.F.type_list_reverse mt_reverse (pv 2))
       case x31 =>
        refine' pss_one ?x33
        case x33 =>
         exact (ps_ret (pv 2))
  case RR =>
    intro d hd
    refine ⟨_, rfl, (by show 1 ≤ sizeLine; decide), fun l hl => ?_⟩
    have hzl : z.length ≤ sizeLine := small80 (by omega)
    refine ⟨_, rfl, z, rfl, hzl, (z.length : Int), rfl, by omega, by omega, ?_⟩
    have ez : z.length = z.cps.toList.length := len_cps z
    have et : ((z.length : Int)).toNat = z.cps.toList.length := by omega
    rw [et]
    refine for_rangeC (lo := (z.length : Int) - 1) (c := -1) (n := z.cps.toList.length) (fun t σ H1 => ∃ (d l : Addr) (pl : Option V) (refs : List Addr), σ = [some (.str z), some (.ref d), some (.ref l), pl] ∧ TabXI H H1 z.cps.toList t d l refs) ?_ ?_ ?_
    · have dl : d ≠ l := ne_of_none upd_same hl
      refine ⟨d, l, none, [d], rfl, ⟨(same_new hd _).trans (same_new hl _), (same_new hd _).free hl, upd_same, rfl, rfl, fun j r e => ?_⟩⟩
      have hj : j = 0 := by
        have := (List.getElem?_eq_some_iff.mp e).1
        simpa using this
      subst hj
      have er : d = r := by simpa using e
      subst er
      refine ⟨dl, ?_⟩
      rw [upd_ne dl, upd_same, Nat.sub_zero, List.drop_length]; rfl
    · rintro t σ H1 ht ⟨d1, l1, pl, refs, rfl, I⟩
      obtain ⟨_, hk1⟩ := I.at_ t d1 I.last
      refine ⟨_, rfl, d1, _, rfl, .inl hk1, fun p hp => ?_⟩
      have hlt : z.cps.toList.length - 1 - t < z.cps.toList.length := by omega
      have ei : (z.length : Int) - 1 + (t : Nat) * (-1) = ((z.cps.toList.length - 1 - t : Nat) : Int) := by omega
      obtain ⟨c, _, hc, hc2⟩ := at_in (xs := z.cps.toList) (v := (z.length : Int) - 1 + (t : Nat) * (-1)) (by omega) (by omega)
      have hc' : z.cps.toList[z.cps.toList.length - 1 - t]? = some c := by rw [ei, Int.toNat_natCast] at hc; exact hc
      have hkl : (entK (z.cps.toList.drop (z.cps.toList.length - t)) (z.cps.toList.length - t)).length < 1000 := Nat.lt_of_le_of_lt (entK_len _ _) (by rw [List.length_drop]; omega)
      refine ⟨_, rfl, _, rfl, _, rfl, _, rfl, _, _, c, rfl, rfl, hzl, hc2, p, _, rfl, DPut.k (k := Sum.inr (sg c)) upd_same (Nat.lt_trans hkl (by decide)), ?_⟩
      have J := tabX_turn I hp hk1 ht hc'
      have n := (ne_of_none I.lst hp)
      have hl1 : ∀ o1 o2, (upd (upd H1 p o1) p o2) l1 = some (.lst (refs.map V.ref)) := fun o1 o2 => by
        rw [upd_ne n, upd_ne n]; exact I.lst
      refine ⟨_, rfl, .inl ⟨rfl, _, SqL.of (hl1 _ _)⟩, _, rfl, l1, _, _, rfl, rfl, hl1 _ _, ?_, ?_⟩
      · rw [List.length_map, I.len]; exact small1000 (by omega)
      · refine ⟨p, l1, _, refs ++ [p], rfl, ?_⟩
        rw [ei]; exact J
    · rintro σ H1 ⟨d1, l1, pl, refs, rfl, I⟩
      refine ⟨_, rfl, .inl ⟨rfl, _, SqL.of I.lst⟩, l1, _, rfl, rfl, I.lst, _, rfl, ?_⟩
      refine q l1 refs.reverse _ (fun b o e => by rw [upd_ne (ne_of_none e I.nl)]; exact I.sm b o e) I.nl (by rw [upd_same, List.map_reverse]) ⟨by rw [List.length_reverse, I.len], fun i r e => ?_⟩
      have hi : i < refs.length := by
        have := (List.getElem?_eq_some_iff.mp e).1
        rwa [List.length_reverse] at this
      rw [List.getElem?_reverse hi] at e
      obtain ⟨h1, h2⟩ := I.at_ _ r e
      rw [upd_ne h1, h2, I.len]
      have : z.cps.toList.length - (z.cps.toList.length + 1 - 1 - i) = i := by rw [I.len] at hi; omega
      rw [this]
end
end Lv
set_option Elab.async false
set_option linter.all false
set_option maxRecDepth 100000
namespace L2
open PySem PySem.Spec PyProof.Rows
abbrev tabO (ps : Array Value) : Obj := { cls := .none, data := .fields ps }
def TabP (P : Addr) : Heap → Prop := fun h => ∃ ps : Array Value, h.get? P = some (tabO ps) ∧ TriplesOk ps.toList
theorem TabP.ok {Pg : Program} {w : World} {H : Hp} {h : Heap} {P : Addr} (t : TabP P h) : ObjOk Pg w H h P (.ext (TabP P)) :=
  ⟨t, let ⟨ps, e, _⟩ := t; ⟨_, e⟩, fun h1 h2 ⟨ps, e, r⟩ k => ⟨ps, k _ e, r⟩⟩
/-- what is written of a code object -/
structure CodeK (K : PySem.W.Frag) (c P : Addr) : Prop where
  ex : ∃ o vs file tf flags tg inF text tt, K.lookup c = some o ∧ o.cls = .type "code" ∧ o.data = .fields vs ∧ vs[11]? = some (.ref P) ∧ vs.getD 11 .none = .ref P ∧ vs.getD 18 .none = .str file tf ∧
    vs.getD 7 .none = .int flags tg ∧ vs.getD 9 .none = .bool inF ∧ vs.getD 10 .none = .int text tt ∧ c ≠ P
theorem CodeK.at {K : PySem.W.Frag} {c P : Addr} {h : Heap} {ps : Array Value} (C : CodeK K c P) (X : K.In h) (hP : h.get? P = some (tabO ps)) (ht : TriplesOk ps.toList) : h.IsCode c P ps ∧ h.TableAt c P ps := by
  obtain ⟨o, vs, file, tf, flags, tg, inF, text, tt, e1, e2, e3, e4, f3, f4, f5, f6, f7, f11⟩ := C.ex
  have e := X _ _ e1
  exact ⟨⟨o, vs, file, tf, flags, tg, inF, text, tt, _, e, e3, f3, f4, f5, f6, f7, hP, rfl, ht, f11⟩, ⟨o, vs, e, e2, e3, e4⟩, hP⟩
structure BModB (base : Heap) (mg : Str → Option Value) : Prop where
  ex : ∃ bm ob, mg "__builtins__" = some (.ref bm) ∧ bm ≠ builtinsNs ∧ base.get? bm = some ob ∧ ob.cls = .type "module" ∧ ob.dict = some builtinsNs ∧ ob.data = .plain
section
variable {prog : Program} {w : World} {A : Around} {E : Value → Shared → Prop} {s : Shared}
end
end L2
set_option Elab.async false
set_option linter.all false
set_option maxRecDepth 100000
namespace L2
open PySem PySem.Spec PyProof.Rows
/-- what is asked of each sign -/
def ElS (prog : Program) (w : World) (D U : Nat) (scope : Scope) (cl : List (Str × Addr)) (x : Str) (elt : Expr) (env : Env) (pr : Nat → Bool) : Prop :=
  ∀ (A' : Around) (E' : Value → Shared → Prop) (C : Addr) (code : Value) (c : Nat) (u : Tok) (s₂ : Shared) (m₂ : Str → Option Value), A'.handled = none → A'.depth ≤ D → A'.units ≤ U → s₂.heap.Ns C m₂ → m₂ x = some (.str ⟨#[c]⟩ u) →
    wpAny (model prog w) A' (eval elt (genEnv scope cl C code builtinsNs env)) (fun y s₃ => y = .bool (pr c) ∧ Keeps s₂ s₃) E' s₂
def tAllS (P : Addr) (pr : Nat → Bool) (te : TE) : TE := fun σ H Q => te σ H fun v H1 => ∃ z : Str, v = .str z ∧ H1 P = some (.ext (TabP P)) ∧ Q (.bl (z.cps.toList.all pr)) H1
section
variable {X : Cx} {iter elt : Expr} {te : TE} {x : Str} {px p gpos pos : Pos} {scope : Scope} {cl : List (Str × Addr)} {c P : Addr} {k : Nat} {pr : Nat → Bool}
end
end L2
set_option Elab.async false
set_option linter.all false
set_option maxRecDepth 100000
namespace L2
open PySem PySem.Spec PyProof.Rows
def OnlyT (tabs : List Addr) (H : Hp) : Prop := ∀ b, H b = none ∨ (∃ o xs, H b = some (.frz o (.lst xs))) ∨ (b ∈ tabs ∧ H b = some (.ext (TabP b)))
def Tabs (tabs : List Addr) (H : Hp) : Prop := ∀ P ∈ tabs, H P = some (.ext (TabP P))
theorem Tabs.same {tabs : List Addr} {H H' : Hp} (t : Tabs tabs H) (s : Same H H') : Tabs tabs H' := fun P hP => s _ _ (t P hP)
def Makers (q : Program) (K : PySem.W.Frag) : List (Str × Addr) → Prop
  | [] => True
  | (x, P) :: r => (∃ d f c od sl fd oc, (recsOf q).find? (fun e => e.name == x) = some d ∧ PySem.W.nsIn K mainGlobals x = some (some (.ref f)) ∧ K.lookup f = some ⟨oc, od, .func fd, sl⟩ ∧ fd.code = .ref c ∧ CodeK K c P ∧ K.lookup P = none) ∧ Makers q K r
theorem Makers.of {q : Program} {K : PySem.W.Frag} {loose : List Str} {mean : ExcName → Option Value} {mg mb : Str → Option Value} {h : Heap} (T : Top q loose mean mg mb h) (X : K.In h) : ∀ {l : List (Str × Addr)}, Makers q K l →
    ∀ P ∈ l.map (·.2), h.get? P = some (tabO #[]) ∧ isCodeTable h P ∧ K.lookup P = none
  | [], _, P, hP => by cases hP
  | (x, P0) :: r, ⟨⟨d, f, c, od, sl, fd, oc, hd, hn, hf, hc, ck, hk⟩, hr⟩, P, hP => by
    rcases List.mem_cons.mp hP with rfl | hP
    · obtain ⟨a, o, fd', c', P', h1, h2, h3, h4, h5, h6⟩ := T.tab d (List.mem_of_find?_eq_some hd)
      have hx : d.name = x := beq_iff_eq.mp (List.find?_some (p := fun e : DefRec => e.name == x) hd)
      rw [hx, PySem.W.mg_of X T.g hn] at h1
      cases h1
      rw [X _ _ hf] at h2
      cases h2
      cases h3
      rw [hc] at h4
      cases h4
      obtain ⟨o2, vs, file, tf, flags, tg, inF, text, tt, e1, e2, e3, e4, f3, f4, f5, f6, f7, f11⟩ := ck.ex
      obtain ⟨⟨o3, vs3, g1, g2, g3, g4⟩, g5⟩ := id h6
      rw [X _ _ e1] at g1
      cases g1
      rw [e3] at g3
      cases g3
      rw [e4] at g4
      cases g4
      exact ⟨g5, h6.isCodeTable, hk⟩
    · exact Makers.of T X hr P hP
def spLawT (K : PySem.W.Frag) (tabs : List Addr) : Sp := fun vs H Q _ => ∃ (a : Addr) (ns : List Int), vs = [.ref a] ∧ SqL K H a (ns.map V.int) ∧ ns.length ≤ 63 ∧ OnlyT tabs H ∧ Tabs tabs H ∧ ∀ H', Tabs tabs H' → Q (.bl true) H'
end L2
set_option Elab.async false
set_option linter.all false
set_option maxRecDepth 100000
namespace L2
open PySem PySem.Spec PyProof.Rows
def rowB (z : Str) : Bool := z.cps.toList.all fun c => !decide ([c] < (Str.ofString "a").cps.toList) && !decide ((Str.ofString "z").cps.toList < [c])
def spIsRow (K : PySem.W.Frag) (P : Addr) : Sp := fun vs H Q _ => ∃ x, vs = [x] ∧ ((∃ z : Str, x = .str z ∧ H P = some (.ext (TabP P)) ∧ Q (.bl (rowB z)) H) ∨ (IsI K H x "str" false ∧ Q (.bl false) H))
end L2
set_option Elab.async false
set_option linter.all false
set_option maxRecDepth 100000
namespace L2
open PySem PySem.Spec PyProof.Rows
/-- what an element knows of the def around it -/
structure Out (X : Cx) (σ : St) (H : Hp) (h : Heap) : Prop where
  hok : HOk X.prog X.w H h
  kin : X.K.In h
  cel : ∀ (i : Nat) (y : Str) (v : V), X.N[i]? = some y → σ[i]? = some (some v) → X.env.scope.names.lookup y = some .cell → ∃ u c, RelV v u ∧ X.env.cells.lookup y = some c ∧ h.IsCell c (some u)
theorem Out.kept {X : Cx} {σ : St} {H : Hp} {h h' : Heap} (O : Out X σ H h) (k : ∀ b o, h.get? b = some o → h'.get? b = some o) : Out X σ H h' :=
  ⟨O.hok.kept k, fun b o e => k b o (O.kin b o e), fun i y v h1 h2 h3 => let ⟨u, c, r, e, o, ho, hd⟩ := O.cel i y v h1 h2 h3; ⟨u, c, r, e, o, k _ _ ho, hd⟩⟩
theorem Inv.out {X : Cx} {pins : List (Addr × Obj)} {σ : St} {H : Hp} {s : Shared} {it : Addr} {h' : Heap} (I : Inv X pins σ H s) (f : FpOk X pins H it) (k : ∀ b o, b ≠ it → s.heap.get? b = some o → h'.get? b = some o) : Out X σ H h' := by
  obtain ⟨f0, f1, f2, f3, f4, f5⟩ := f
  have nit : ∀ b u, H b = some u → b ≠ it := fun b u e z => by rw [z, f0] at e; cases e
  refine ⟨fun b u e => (I.hok b u e).stay (fun c v hc q => k c v ?_ q) (fun _ q => q) fun _ _ q => q, fun b o e => k b o (fun z => ?_) (I.kIn b o e), fun i y v h1 h2 h3 => ?_⟩
  · rcases hc with rfl | hc
    · exact nit _ _ e
    · exact nit _ _ hc
  · subst z
    rcases f3 with f3 | f3
    · exact I.ok.noex b o (I.ok.mod.kin b o e) f3
    · have := Heap.lt_size (I.ok.bs b o (I.ok.mod.kin b o e)).1
      exact absurd this (Nat.not_lt.mpr f3)
  · obtain ⟨m, _, hl⟩ := I.loc
    obtain ⟨u, r, l⟩ := hl i y v h1 h2 (.inr (.inl h3))
    rcases l with ⟨hk, _⟩ | ⟨_, c, hc, o, ho, hd⟩
    · have hk' : X.env.scope.names.lookup y = some .local := hk
      rw [h3] at hk'; cases hk'
    · exact ⟨u, c, r, hc, o, k _ _ (f4 y c hc) ho, hd⟩
/-- locals of an element -/
abbrev LV := Str → Option V
abbrev TG2 := LV → St → Hp → (V → Prop) → Prop
/-- an element's rule -/
def GE (X : Cx) (scope : Scope) (cl : List (Str × Addr)) (U : Nat) (e : Expr) (t : TG2) : Prop :=
  ∀ (A' : Around) (E' : Value → Shared → Prop) (C : Addr) (code : Value) (s₂ : Shared) (m₂ : Str → Option Value) (lv : LV) (σ : St) (H : Hp) (R : V → Prop), A'.handled = none → A'.units ≤ U → Out X σ H s₂.heap → s₂.heap.Ns C m₂ → (∀ y v, lv y = some v → ∃ u, RelV v u ∧ m₂ y = some u) → t lv σ H R →
    wpAny (model X.prog X.w) A' (eval e (genEnv scope cl C code builtinsNs X.env)) (fun y s₃ => (∃ v, RelV v y ∧ R v) ∧ Keeps s₂ s₃) E' s₂
def gLoc (x : Str) : TG2 := fun lv _ _ R => ∃ v, lv x = some v ∧ R v
def gFree (i : Nat) : TG2 := fun _ σ _ R => ∃ v, σ[i]? = some (some v) ∧ R v
def gInt (n : Int) : TG2 := fun _ _ _ R => R (.int n)
def gOp (r : V → V → Hp → (V → Prop) → Prop) (a b : TG2) : TG2 := fun lv σ H R => a lv σ H fun x => b lv σ H fun y => r x y H R
section
variable {X : Cx} {scope : Scope} {cl : List (Str × Addr)} {U : Nat} {a b : Expr} {ta tb : TG2}
theorem Keeps_tok (s : Shared) (t : Nat) : Keeps s { s with toks := t } := ⟨s.heap, t, rfl, fun _ _ e => e⟩
theorem ge_int {n : Int} {k : Nat} {pos : Pos} : GE X scope cl U (.Constant (.int n) k pos) (gInt n) := by
  intro A' E' C code s₂ m₂ lv σ H R hA hU O hn hl r
  exact wpAny_Constant_int ⟨⟨.int n, ⟨_, rfl⟩, r⟩, Keeps_tok _ _⟩
def gLtS : V → V → Hp → (V → Prop) → Prop := fun x y _ R => ∃ i j, x = .str i ∧ y = .str j ∧ R (.bl (decide (i.cps.toList < j.cps.toList)))
def gAdd : V → V → Hp → (V → Prop) → Prop := fun x y _ R => ∃ i j, x = .int i ∧ y = .int j ∧ R (.int (i + j))
def gIn : V → V → Hp → (V → Prop) → Prop := fun x y H R => ∃ c : Nat, x = .str (sg c) ∧ ((∃ z, y = .str z ∧ R (.bl (decide (c ∈ z.cps.toList)))) ∨ ∃ d kvs, y = .ref d ∧ Rd H d (.dK kvs) ∧ R (.bl (valV kvs (Sum.inr (sg c))).isSome))
def gIxS : V → V → Hp → (V → Prop) → Prop := fun x y _ R => ∃ z i c, x = .str z ∧ y = .int i ∧ z.length ≤ sizeLine ∧ atI z.cps.toList i = some c ∧ R (.str (sg c))
def gIxL (K : PySem.W.Frag) : V → V → Hp → (V → Prop) → Prop := fun x y H R => ∃ p xs i v, x = .ref p ∧ y = .int i ∧ SqL K H p xs ∧ 0 ≤ i ∧ atI xs i = some v ∧ R v
theorem Out.list {σ : St} {H : Hp} {h : Heap} {l : Addr} {xs : List V} (O : Out X σ H h) (q : SqL X.K H l xs) : ∃ its : List Value, Vals xs its ∧ PlainL h l its.toArray ∧ xs.length ≤ sizeLine := by
  rcases q with q | ⟨o, its, n, hk, hc, hd, hs, hz, r⟩
  · obtain ⟨z, its, n, r, e⟩ := q.ok O.hok
    exact ⟨its, r, ⟨_, n, e, rfl, rfl, rfl⟩, z⟩
  · refine ⟨its.toList, r, ⟨o, n, O.kin l o hk, hc, hd, by simpa using hs⟩, ?_⟩
    have e := r.length
    simp only [Array.length_toList] at e
    omega
end
end L2
set_option Elab.async false
set_option linter.all false
set_option maxRecDepth 100000
namespace L2
open PySem PySem.Spec PyProof.Rows
abbrev TIG := St → Hp → (Nat → (Nat → Option V) → Hp → Prop) → Prop
def PIG (X : Cx) (iter : Expr) (ti : TIG) : Prop :=
  ∀ (pins : List (Addr × Obj)) (s : Shared) (σ : St) (H : Hp) (R : Nat → (Nat → Option V) → Hp → Prop), Inv X pins σ H s → ti σ H R →
    wpAny (model X.prog X.w) X.A (eval iter X.env) (fun xv s1 => wpAny (model X.prog X.w) X.A (pyIter xv) (fun it s2 => ∃ (I : Addr) (fp : List Addr) (n : Nat) (Pv : Nat → Value → Prop) (St₀ : Nat → Heap → Prop) (vi : Nat → Option V) (H1 : Hp),
      it = .ref I ∧ Inv X pins σ H1 s2 ∧ FpOk X pins H1 I ∧ (∀ b ∈ fp, b < s2.heap.objs.size) ∧ (∀ b ∈ fp, ∀ P, H1 b = some (.ext (TabP P)) → False) ∧ (∀ A' : Around, A'.handled = none → Walks X.prog X.w A' I fp [I] n Pv St₀) ∧ St₀ 0 s2.heap ∧ (∀ i u, Pv i u → ∃ y, vi i = some y ∧ RelV y u) ∧ R n vi H1) X.xe s1) X.xe s
abbrev lv1 (x : Str) (v : V) : LV := fun y => if y = x then some v else none
def tAllG (P : Addr) (ti : TIG) (x : Str) (t : TG2) : TE := fun σ H Q => ti σ H fun n vi H1 => H1 P = some (.ext (TabP P)) ∧ ∃ pr : Nat → Bool, (∀ i y, i < n → vi i = some y → t (lv1 x y) σ H1 fun r => r = .bl (pr i)) ∧ Q (.bl ((List.range n).all pr)) H1
section
variable {X : Cx} {elt iter : Expr} {ti : TIG} {t : TG2} {x : Str} {px p gpos pos : Pos} {scope : Scope} {cl : List (Str × Addr)} {c P : Addr} {k : Nat}
end
section
variable {X : Cx} {e : Expr} {te : TE}
def iGStr (te : TE) : TIG := fun σ H R => te σ H fun v H1 => ∃ z : Str, v = .str z ∧ R z.cps.toList.length (fun i => z.cps.toList[i]?.map fun c => V.str (sg c)) H1
def iGRng (ta : TA) : TIG := fun σ H R => ta σ H fun vs H1 => ∃ j : Int, vs = [.int j] ∧ -(2 ^ 62) ≤ j ∧ j < 2 ^ 62 ∧ R j.toNat (fun i => some (.int (i : Int))) H1
end
end L2
set_option Elab.async false
set_option linter.all false
set_option maxRecDepth 100000
namespace L2
open PySem PySem.Spec PyProof.Rows
open Sem (wp)
section
variable {prog : Program} {w : World} {A : Around} {E : Value → Shared → Prop} {h : Heap} {g : Array GenState} {d : Drawn} {t : Nat} {os : OsState} {a : Addr} {o : Obj}
end
end L2
set_option Elab.async false
set_option linter.all false
set_option maxRecDepth 100000
namespace L2
open PySem PySem.Spec PyProof.Rows
section
variable {X : Cx}
abbrev sgs (cs : List Nat) : List V := cs.map fun c => V.str (sg c)
def ExcP (T : String) (a : Addr) : Heap → Prop := fun h => ∃ o, h.get? a = some o ∧ o.cls = .type T
theorem ExcP.ok {Pg : Program} {w : World} {H : Hp} {h : Heap} {T : String} {a : Addr} (t : ExcP T a h) : ObjOk Pg w H h a (.ext (ExcP T a)) :=
  ⟨t, let ⟨o, e, _⟩ := t; ⟨_, e⟩, fun h1 h2 ⟨o, e, r⟩ k => ⟨o, k _ e, r⟩⟩
theorem ObjOk.ex {P : Program} {w : World} {H : Hp} {h : Heap} {a : Addr} {o : HO} (x : ObjOk P w H h a o) : ∃ u, h.get? a = some u := by
  cases o with
  | lst xs => obtain ⟨_, _, _, _, e⟩ := x; exact ⟨_, e⟩
  | tup xs => obtain ⟨_, _, _, ob, e, _⟩ := x; exact ⟨_, e⟩
  | dK kvs => obtain ⟨_, _, _, _, o, _, _, e, _⟩ := x; exact ⟨_, e⟩
  | dT kvs => obtain ⟨_, _, _, _, o, _, _, e, _⟩ := x; exact ⟨_, e⟩
  | set S n => obtain ⟨o, _, _, _, e, _⟩ := x; exact ⟨_, e⟩
  | ins C dx fs => obtain ⟨_, _, _, e, _⟩ := x; exact ⟨_, e⟩
  | own y => obtain ⟨_, e⟩ := x; exact ⟨_, e⟩
  | xd fs => obtain ⟨_, ⟨_, _, _, e, _⟩, _⟩ := x; exact ⟨_, e⟩
  | rng lo hi => obtain ⟨_, _, _, e⟩ := x; exact ⟨_, e⟩
  | frz ob u => obtain ⟨e, _⟩ := x; exact ⟨_, e⟩
  | tbl ps => exact ⟨_, (show h.get? a = some _ from x)⟩
  | met f y => exact ⟨_, (show h.get? a = some _ from x)⟩
  | ext φ => obtain ⟨_, e, _⟩ := x; exact e
end
end L2
set_option Elab.async false
set_option linter.all false
set_option maxRecDepth 100000
namespace L2
open PySem PySem.Spec PyProof.Rows
abbrev kvsOf (ps : List (Str × Int)) : List (Key × V) := ps.map fun p => (Sum.inr p.1, V.int p.2)
abbrev datOf (ps : List (Str × Int)) : List (PyData × PyData) := ps.map fun p => (PyData.str p.1, PyData.int p.2)
def rReprD : List V → Hp → VK → Prop := fun xs H Q => ∃ (a : Addr) (ps : List (Str × Int)), xs = [.ref a] ∧ H a = some (.dK (kvsOf ps)) ∧ (PyData.dict (datOf ps)).showable = true ∧ (PyData.dict (datOf ps)).shown.length ≤ sizeLine ∧ (PyData.dict (datOf ps)).depth ≤ 64 ∧
  Q (.str (PyData.dict (datOf ps)).shown) H
end L2
set_option Elab.async false
set_option linter.all false
set_option maxRecDepth 100000
namespace L2
open PySem PySem.Spec PyProof.Rows
theorem Vals.rev {xs : List V} {us : List Value} (r : Vals xs us) : Vals xs.reverse us.reverse := by
  induction r with
  | nil => exact .nil
  | cons a t ih => rw [List.reverse_cons, List.reverse_cons]; exact ih.append (.cons a .nil)
def tRevL (K : PySem.W.Frag) (te : TE) : TE := fun σ H Q => te σ H fun x H1 => ∃ a xs, x = .ref a ∧ SqL K H1 a xs ∧ ∀ p, H1 p = none → Q (.ref p) (upd H1 p (.lst xs.reverse))
section
variable {X : Cx} {e : Expr} {te : TE}
def rRepr (K : PySem.W.Frag) : List V → Hp → VK → Prop := fun xs H Q => ∃ x d, xs = [x] ∧ Dp K H x d ∧ d.showable = true ∧ d.hasDict = false ∧ d.depth ≤ 64 ∧ d.shown.length ≤ sizeLine ∧ Q (.str d.shown) H
end
end L2
set_option Elab.async false
set_option linter.all false
set_option maxRecDepth 100000
namespace L2
open PySem PySem.Spec PyProof.Rows
def fsts (cs : List Nat) : Nat → List Nat → Option (List Nat)
  | _, [] => some []
  | i, d :: ds => match nxt cs i (sg d) with
    | none => none
    | some k => (fsts cs (k + 1) ds).map (k :: ·)
def lsts (cs : List Nat) : Nat → List Nat → Option (List Nat)
  | _, [] => some []
  | e, d :: ds => match prv cs e (sg d) with
    | none => none
    | some k => (lsts cs k ds).map (k :: ·)
abbrev nInt (ks : List Nat) : List V := ks.map fun k => V.int (k : Nat)
def AtO (H : Hp) : Option (List Nat) → V → Prop
  | none, x => x = .non
  | some ks, x => ∃ a, x = .ref a ∧ H a = some (.lst (nInt ks))
theorem AtO.same {H H' : Hp} {o : Option (List Nat)} {x : V} (h : AtO H o x) (s : Same H H') : AtO H' o x := by
  cases o with
  | none => exact h
  | some ks => obtain ⟨a, e, q⟩ := h; exact ⟨a, e, s _ _ q⟩
/-- a told list, or none: new -/
def ToldO (H : Hp) (o : Option (List Nat)) (Q : VK) : Prop := match o with
  | none => ∀ H' : Hp, Same H H' → Q .non H'
  | some ks => ∀ (p : Addr) (H' : Hp), Same H H' → H p = none → H' p = some (.lst (nInt ks)) → Q (.ref p) H'
def Few : Option (List Nat) → Prop
  | none => True
  | some ks => ks.length ≤ 1000 ∧ ∀ k ∈ ks, k < 1000000
def spFirst : Sp := fun vs H Q _ => ∃ z y : Str, vs = [.str z, .str y] ∧ z.length ≤ 200 ∧ y.length ≤ 200 ∧ ToldO H (fsts z.cps.toList 0 y.cps.toList) Q
def lastP (cs ds : List Nat) : Option (List Nat) := (lsts cs cs.length ds.reverse).map List.reverse
def spLast : Sp := fun vs H Q _ => ∃ z y : Str, vs = [.str z, .str y] ∧ z.length ≤ 200 ∧ y.length ≤ 200 ∧ ToldO H (lastP z.cps.toList y.cps.toList) Q
def spSameL : Sp := fun vs H Q _ => ∃ (x y : V) (o : Option (List Nat)), vs = [x, y] ∧ AtO H o x ∧ AtO H o y ∧ Few o ∧ Q (.bl true) H
def spPart : Sp := fun vs H Q _ => ∃ (p : Addr) (z : Str), vs = [.ref p, .str z] ∧ HandAt H p ∧ IsRow z ∧ z.length ≤ 200 ∧ ∀ (x : Str) (H' : Hp), IsRow x → x.length ≤ z.length → HandAt H' p → Kp p H H' → Q (.str x) H'
def spOther : Sp := fun vs H Q _ => ∃ (p : Addr) (z : Str), vs = [.ref p, .str z] ∧ HandAt H p ∧ IsRow z ∧ z.length ≤ 80 ∧ ∀ (x : Str) (H' : Hp), IsRow x → x.length ≤ 80 → HandAt H' p → Kp p H H' → Q (.str x) H'
def spRight : Sp := fun vs H Q _ => ∃ z y : Str, vs = [.str z, .str y] ∧ z.length ≤ 200 ∧ y.length ≤ 200 ∧ ∀ H' : Hp, Same H H' → Q (.bl true) H'
end L2
set_option Elab.async false
set_option linter.all false
set_option maxRecDepth 100000
namespace L2
open PySem
def NewO (H : Hp) (x : V) : Prop := ∀ a, x = .ref a → H a = none
/-- a list of the callee's own, or none -/
def OwnL (H Hx : Hp) (p : Addr) (n : Nat) (x : V) : Prop := x = .non ∨ ∃ a xs, x = .ref a ∧ Hx a = some (.lst xs) ∧ xs.length ≤ n ∧ a ≠ p ∧ H a = none
theorem OwnL.of {H Hx : Hp} {p : Addr} {o : Option (List Nat)} {x : V} (h : AtO Hx o x) (fw : Few o) (n : NewO H x) (hp : ∀ a, x = .ref a → a ≠ p) : OwnL H Hx p 1000 x := by
  cases o with
  | none => exact .inl h
  | some ks => obtain ⟨a, e, q⟩ := h; exact .inr ⟨a, _, e, q, by rw [List.length_map]; exact fw.1, hp a e, n a e⟩
theorem OwnL.upd {H Hx : Hp} {p a : Addr} {n : Nat} {x : V} {ys : List V} (h : OwnL H Hx p n x) (hy : ys.length ≤ n + 1) : OwnL H (upd Hx a (.lst ys)) p (n + 1) x := by
  rcases h with h | ⟨b, xs, e, q, l, ne, hn⟩
  · exact .inl h
  · by_cases z : b = a
    · exact .inr ⟨b, ys, e, by rw [z]; exact upd_same, hy, ne, hn⟩
    · exact .inr ⟨b, xs, e, by rw [upd_ne z]; exact q, by omega, ne, hn⟩
theorem OwnL.mono {H Hx : Hp} {p : Addr} {n m : Nat} {x : V} (h : OwnL H Hx p n x) (k : n ≤ m) : OwnL H Hx p m x := by
  rcases h with h | ⟨b, xs, e, q, l, ne, hn⟩
  · exact .inl h
  · exact .inr ⟨b, xs, e, q, by omega, ne, hn⟩
theorem AtO.ne {H : Hp} {o : Option (List Nat)} {x : V} {p : Addr} (h : AtO H o x) (n : H p = none) : ∀ a, x = .ref a → a ≠ p := fun a e => by
  cases o with
  | none => rw [show x = .non from h] at e; cases e
  | some ks => obtain ⟨b, e2, q⟩ := h; rw [e2] at e; cases e; exact ne_of_none q n
end L2
set_option Elab.async false
set_option linter.all false
set_option maxRecDepth 100000
namespace L2
open PySem PySem.Spec PyProof.Rows
def Asc (z : Str) : Prop := ∀ c ∈ z.cps.toList, c < 128
theorem Asc.app {x y : Str} (h : Asc x) (h' : Asc y) : Asc (x ++ y) := fun c hc => by
  rw [app_cps] at hc
  rcases List.mem_append.mp hc with q | q
  · exact h c q
  · exact h' c q
theorem Asc.cut {x : Str} (h : Asc x) (lo hi : Option Int) : Asc (cutS x lo hi) := fun c hc => by
  rw [cut_cps] at hc
  exact h c (List.mem_of_mem_drop (List.mem_of_mem_take hc))
def strsD (zs : List Str) : List PyData := zs.map PyData.str
inductive Th (H : Hp) : V → PyData → Prop
  | non : Th H .non .none
  | bl (b : Bool) : Th H (.bl b) (.bool b)
  | int (i : Int) (h : i.natAbs < 1000) : Th H (.int i) (.int i)
  | str (z : Str) (h : Asc z) (l : z.length ≤ 4000) : Th H (.str z) (.str z)
  | lst (a : Addr) (zs : List Str) (e : H a = some (.lst (zs.map V.str))) (h : ∀ z ∈ zs, Asc z ∧ z.length ≤ 4000) (l : (zs.map (·.length)).sum + zs.length ≤ 8000) : Th H (.ref a) (.list (strsD zs))
  | tup (a : Addr) (zs : List Str) (e : H a = some (.tup (zs.map V.str))) (h : ∀ z ∈ zs, Asc z ∧ z.length ≤ 4000) (l : (zs.map (·.length)).sum + zs.length ≤ 8000) : Th H (.ref a) (.tuple (strsD zs))
  | dct (a : Addr) (ps : List (Str × Int)) (e : H a = some (.dK (kvsOf ps))) (h : ∀ p ∈ ps, Asc p.1 ∧ p.1.length ≤ 4000 ∧ p.2.natAbs < 1000) (l : ps.length ≤ 1) : Th H (.ref a) (.dict (datOf ps))
theorem Th.same {H H' : Hp} {x : V} {d : PyData} (t : Th H x d) (s : Same H H') : Th H' x d := by
  cases t with
  | non => exact .non
  | bl b => exact .bl b
  | int i h => exact .int i h
  | str z h l => exact .str z h l
  | lst a zs e h l => exact .lst a zs (s _ _ e) h l
  | tup a zs e h l => exact .tup a zs (s _ _ e) h l
  | dct a ps e h l => exact .dct a ps (s _ _ e) h l
theorem Th.kp {H H' : Hp} {x : V} {d : PyData} {p : Addr} (t : Th H x d) (hp : HandAt H p) (k : Kp p H H') : Th H' x d := by
  obtain ⟨d1, r, hh, _⟩ := hp.ex
  cases t with
  | non => exact .non
  | bl b => exact .bl b
  | int i h => exact .int i h
  | str z h l => exact .str z h l
  | lst a zs e h l =>
    refine .lst a zs (k _ _ e (fun z => ?_)) h l
    subst z
    rw [hh] at e
    have e2 := HO.lst.inj (Option.some.inj e)
    cases zs with
    | nil => cases e2
    | cons z zs => cases e2
  | tup a zs e h l => exact .tup a zs (k _ _ e (ne_of e hh (by intro z; cases z))) h l
  | dct a ps e h l => exact .dct a ps (k _ _ e (ne_of e hh (by intro z; cases z))) h l
theorem asc_short {z : Str} (h : Asc z) : (z.cps.toList.all fun c => decide (c < 16 ^ 8)) = true := by
  rw [List.all_eq_true]
  intro c hc
  have := h c hc
  exact decide_eq_true (by omega)
theorem strs_short : ∀ zs : List Str, (∀ z ∈ zs, Asc z) → PyData.leavesShortAll 13 (strsD zs) = true
  | [], _ => rfl
  | z :: zs, h => by
    show ((z.cps.toList.all fun c => decide (c < 16 ^ 8)) && PyData.leavesShortAll 13 (strsD zs)) = true
    rw [asc_short (h z (List.mem_cons_self ..)), strs_short zs fun y hy => h y (List.mem_cons_of_mem _ hy)]; rfl
theorem strs_show : ∀ zs : List Str, PyData.showableAll (strsD zs) = true
  | [] => rfl
  | z :: zs => by show (true && PyData.showableAll (strsD zs)) = true; rw [strs_show zs]; rfl
theorem strs_nodict : ∀ zs : List Str, PyData.hasDictAll (strsD zs) = false
  | [] => rfl
  | z :: zs => strs_nodict zs
theorem strs_depth : ∀ zs : List Str, PyData.depthAll (strsD zs) = 0
  | [] => rfl
  | z :: zs => by show max (PyData.depth (.str z)) (PyData.depthAll (strsD zs)) = 0; rw [strs_depth zs]; rfl
theorem strs_weight : ∀ zs : List Str, PyData.weightAll (strsD zs) = (zs.map (·.length)).sum + zs.length
  | [] => rfl
  | z :: zs => by
    show z.cps.size + 1 + PyData.weightAll (strsD zs) = _
    rw [strs_weight zs, List.map_cons, List.sum_cons, List.length_cons]
    show z.length + 1 + _ = _
    omega
theorem strs_dp {K : PySem.W.Frag} {H : Hp} : ∀ zs : List Str, DpAll K H (zs.map V.str) (strsD zs)
  | [] => .nil
  | z :: zs => .cons (.str z) (strs_dp zs)
theorem int_shown {i : Int} (h : i.natAbs < 1000) : decide ((PyData.shown (.int i)).length ≤ 13) = true := decide_eq_true (PyData.shown_int_le (Nat.lt_trans h (by decide)))
theorem int_log {i : Int} (h : i.natAbs < 1000) : i.natAbs.log2 < 1920 := by
  by_cases e : i.natAbs = 0
  · rw [e]; decide
  · exact (Nat.log2_lt e).mpr (Nat.lt_of_lt_of_le h (Nat.le_trans (by decide : 1000 ≤ 2 ^ 10) (Nat.pow_le_pow_right (by decide) (by decide))))
/-- a thing's text is told -/
theorem Th.repr {K : PySem.W.Frag} {H : Hp} {x : V} {d : PyData} {Q : VK} (t : Th H x d) (q : Q (.str d.shown) H) : rRepr K [x] H Q ∨ rReprD [x] H Q := by
  cases t with
  | non => exact .inl ⟨_, _, rfl, .non, rfl, rfl, by decide, by decide +kernel, q⟩
  | bl b => exact .inl ⟨_, _, rfl, .bl b, rfl, rfl, by show 0 ≤ 64; decide, by cases b <;> decide +kernel, q⟩
  | int i h => exact .inl ⟨_, _, rfl, .int i, decide_eq_true (int_log h), rfl, by show 0 ≤ 64; decide, Nat.le_trans (PyData.shown_int_le (Nat.lt_trans h (by decide))) (by decide), q⟩
  | str z h l => exact .inl ⟨_, _, rfl, .str z, rfl, rfl, by show 0 ≤ 64; decide, PyData.shown_fits (B := 13) (by decide) (by decide) (asc_short h) (by show z.length ≤ _; omega), q⟩
  | lst a zs e h l =>
    refine .inl ⟨_, _, rfl, .lst (SqL.of e) (strs_dp zs), strs_show zs, strs_nodict zs, ?_, PyData.shown_fits (B := 13) (by decide) (by decide) (strs_short zs fun z hz => (h z hz).1) ?_, q⟩
    · show PyData.depthAll (strsD zs) + 1 ≤ 64
      rw [strs_depth]; decide
    · show PyData.weightAll (strsD zs) ≤ 2 ^ 20
      rw [strs_weight]
      exact Nat.le_trans l (by decide)
  | tup a zs e h l =>
    refine .inl ⟨_, _, rfl, .tup (SqT.of e) (strs_dp zs), strs_show zs, strs_nodict zs, ?_, PyData.shown_fits (B := 13) (by decide) (by decide) (strs_short zs fun z hz => (h z hz).1) ?_, q⟩
    · show PyData.depthAll (strsD zs) + 1 ≤ 64
      rw [strs_depth]; decide
    · show PyData.weightAll (strsD zs) ≤ 2 ^ 20
      rw [strs_weight]
      exact Nat.le_trans l (by decide)
  | dct a ps e h l =>
    refine .inr ⟨a, ps, rfl, e, ?_, PyData.shown_fits (B := 13) (by decide) (by decide) ?_ ?_, ?_, q⟩
    · match ps, l with
      | [], _ => rfl
      | [(z, n)], _ =>
        show (true && decide (n.natAbs.log2 < 1920) && true) = true
        rw [decide_eq_true (int_log (h (z, n) (List.mem_singleton.mpr rfl)).2.2)]; rfl
    · match ps, l with
      | [], _ => rfl
      | [(z, n)], _ =>
        have hz := h (z, n) (List.mem_singleton.mpr rfl)
        show ((z.cps.toList.all fun c => decide (c < 16 ^ 8)) && decide ((PyData.shown (.int n)).length ≤ 13) && true) = true
        rw [asc_short hz.1, int_shown hz.2.2]; rfl
    · match ps, l with
      | [], _ => exact Nat.zero_le _
      | [(z, n)], _ =>
        have hz := h (z, n) (List.mem_singleton.mpr rfl)
        have hlg : n.natAbs.log2 < 1920 := int_log hz.2.2
        have hzl : z.length ≤ 4000 := hz.2.1
        show z.length + (if n == 0 then 0 else n.natAbs.log2 + 1) + 2 + 0 ≤ 2 ^ 20
        split <;> omega
    · match ps, l with
      | [], _ => show 0 + 1 ≤ 64; decide
      | [(z, n)], _ => show max (max 0 0) 0 + 1 ≤ 64; decide
end L2
set_option Elab.async false
set_option linter.all false
set_option maxRecDepth 100000
set_option maxHeartbeats 8000000
namespace L2
open PySem
def spIsRow2 (K : PySem.W.Frag) (P : Addr) : Sp := fun vs H Q _ => ∃ x, vs = [x] ∧ ((∃ z : Str, x = .str z ∧ H P = some (.ext (TabP P)) ∧ Q (.bl (rowB z)) H) ∨ (IsI K H x "str" false ∧ Q (.bl false) H) ∨ ∃ a, x = .ref a ∧ H a = some (.ext (ExcP "ValueError" a)) ∧ Q (.bl false) H)
def spFirst2 : Sp := fun vs H Q _ => ∃ z y : Str, vs = [.str z, .str y] ∧ z.length ≤ 200 ∧ y.length ≤ 4000 ∧ ToldO H (fsts z.cps.toList 0 y.cps.toList) Q
def spIsLeft2 (K : PySem.W.Frag) (P : Addr) : Sp := fun vs H Q _ => ∃ (z : Str) (x : V), vs = [.str z, x] ∧ z.length ≤ 200 ∧
  ((∃ y : Str, x = .str y ∧ y.length ≤ 4000 ∧ H P = some (.ext (TabP P)) ∧ ∀ H', Same H H' → Q (.bl (rowB y && (fsts z.cps.toList 0 y.cps.toList).isSome)) H') ∨ (IsI K H x "str" false ∧ Q (.bl false) H) ∨ ∃ a, x = .ref a ∧ H a = some (.ext (ExcP "ValueError" a)) ∧ Q (.bl false) H)
end L2
set_option Elab.async false
set_option linter.all false
set_option maxRecDepth 100000
namespace L2
open PySem PySem.Spec PyProof.Rows
structure DrawsAt (H : Hp) (p : Addr) : Prop where
  ex : ∃ ns : List Int, H p = some (.lst (ns.map V.int)) ∧ (∀ n ∈ ns, 0 ≤ n ∧ n < 1000) ∧ ns.length ≤ 240
theorem DrawsAt.kp {H H' : Hp} {p q : Addr} (h : DrawsAt H p) (k : Kp q H H') (n : p ≠ q) : DrawsAt H' p := by
  obtain ⟨ns, e, z⟩ := h.ex
  exact ⟨ns, k _ _ e n, z⟩
theorem DrawsAt.same {H H' : Hp} {p : Addr} (h : DrawsAt H p) (k : Same H H') : DrawsAt H' p := by
  obtain ⟨ns, e, z⟩ := h.ex
  exact ⟨ns, k _ _ e, z⟩
theorem DrawsAt.ne {H : Hp} {p q : Addr} (h : DrawsAt H p) (n : H q = none) : q ≠ p := by
  obtain ⟨ns, e, z⟩ := h.ex
  exact (ne_of_none e n).symm
theorem Kp.freeD {p : Addr} {H H' : Hp} (k : Kp p H H') (h : DrawsAt H' p) {q : Addr} (n : H' q = none) : H q = none := by
  cases e : H q with
  | none => rfl
  | some o =>
    have := k q o e (h.ne n)
    rw [n] at this; cases this
def spDraws (K : PySem.W.Frag) : Sp := fun vs H Q _ => ∃ (a : Addr) (ns : List Int), vs = [.ref a] ∧ SqL K H a (ns.map V.int) ∧ Scr K H a (ns.map V.int) ∧ ns.length ≤ 63 ∧ ∀ (p : Addr) (H' : Hp), H p = none → DrawsAt H' p → Same H H' → Q (.ref p) H'
def spTake : Sp := fun vs H Q _ => ∃ (p : Addr) (L : Int), vs = [.ref p, .int L] ∧ DrawsAt H p ∧ 0 < L ∧ ∀ (v : Int) (H' : Hp), 0 ≤ v → v < L → DrawsAt H' p → Kp p H H' → Q (.int v) H'
def abcC (k : Int) : Nat := 97 + (k % 26).toNat
theorem abcC_ok (k : Int) : 97 ≤ abcC k ∧ abcC k ≤ 122 := by
  unfold abcC
  have h1 : 0 ≤ k % 26 := Int.emod_nonneg _ (by decide)
  have h2 : k % 26 < 26 := Int.emod_lt_of_pos _ (by decide)
  omega
def spAbc : Sp := fun vs H Q _ => ∃ k : Int, vs = [.int k] ∧ Q (.str (sg (abcC k))) H
/-- some signs -/
structure SignsAt (H : Hp) (q : Addr) (cs : List Nat) : Prop where
  at_ : H q = some (.lst ((cs.map sg).map V.str))
  ne : cs ≠ []
  le : cs.length ≤ 26
  ok : ∀ c ∈ cs, 97 ≤ c ∧ c ≤ 122
theorem SignsAt.kp {H H' : Hp} {q p : Addr} {cs : List Nat} (h : SignsAt H q cs) (k : Kp p H H') (n : q ≠ p) : SignsAt H' q cs := ⟨k _ _ h.at_ n, h.ne, h.le, h.ok⟩
theorem SignsAt.same {H H' : Hp} {q : Addr} {cs : List Nat} (h : SignsAt H q cs) (k : Same H H') : SignsAt H' q cs := ⟨k _ _ h.at_, h.ne, h.le, h.ok⟩
theorem SignsAt.pos {H : Hp} {q : Addr} {cs : List Nat} (h : SignsAt H q cs) : 0 < cs.length := List.length_pos_iff.mpr h.ne
theorem sgs_at' {cs : List Nat} {v : Int} (h0 : 0 ≤ v) (h1 : v < cs.length) : ∃ c, c ∈ cs ∧ atI ((cs.map sg).map V.str) v = some (.str (sg c)) := by
  obtain ⟨x, hx, _, hx2⟩ := at_in (xs := (cs.map sg).map V.str) (v := v) h0 (by rw [List.length_map, List.length_map]; exact h1)
  obtain ⟨y, hy, rfl⟩ := List.mem_map.mp hx
  obtain ⟨c, hc, rfl⟩ := List.mem_map.mp hy
  exact ⟨c, hc, hx2⟩
def spSigns : Sp := fun vs H Q _ => ∃ p, vs = [.ref p] ∧ DrawsAt H p ∧ ∀ (q : Addr) (cs : List Nat) (H' : Hp), SignsAt H' q cs → q ≠ p → H q = none → DrawsAt H' p → Kp p H H' → Q (.ref q) H'
structure GrowAt (C : Addr) (H : Hp) (g : Addr) (z : Str) : Prop where
  ex : ∃ dx, H g = some (.ins C dx [("letters", .str z)])
  row : IsRow z
  le : z.length ≤ 80
theorem GrowAt.same {C : Addr} {H H' : Hp} {g : Addr} {z : Str} (h : GrowAt C H g z) (s : Same H H') : GrowAt C H' g z := let ⟨dx, e⟩ := h.ex; ⟨⟨dx, s _ _ e⟩, h.row, h.le⟩
theorem GrowAt.kp {C : Addr} {H H' : Hp} {g p : Addr} {z : Str} (h : GrowAt C H g z) (k : Kp p H H') (n : g ≠ p) : GrowAt C H' g z := let ⟨dx, e⟩ := h.ex; ⟨⟨dx, k _ _ e n⟩, h.row, h.le⟩
theorem GrowAt.ne {C : Addr} {H : Hp} {g q : Addr} {z : Str} (h : GrowAt C H g z) (n : H q = none) : q ≠ g := by
  obtain ⟨dx, e⟩ := h.ex
  exact (ne_of_none e n).symm
def spGInit (C : Addr) : Sp := fun vs H Q _ => ∃ p dx : Addr, vs = [.ref p] ∧ H p = some (.ins C dx []) ∧ ∀ H', GrowAt C H' p (Str.ofString "") → Kp p H H' → Q .non H'
def spGPut (C P : Addr) : Sp := fun vs H Q _ => ∃ (g : Addr) (z : Str) (c : Nat), vs = [.ref g, .str (sg c)] ∧ GrowAt C H g z ∧ z.length < 80 ∧ (97 ≤ c ∧ c ≤ 122) ∧ H P = some (.ext (TabP P)) ∧ ∀ H', GrowAt C H' g (z ++ sg c) → Kp g H H' → Q .non H'
def undoS (z : Str) : Str := cutS z none (some (-1))
def spGUndo (C : Addr) : Sp := fun vs H Q _ => ∃ (g : Addr) (z : Str), vs = [.ref g] ∧ GrowAt C H g z ∧ (z.length = 0 → Q (.bl false) H) ∧ (0 < z.length → ∀ H', GrowAt C H' g (undoS z) → Kp g H H' → Q (.bl true) H')
def spGRow (C : Addr) : Sp := fun vs H Q _ => ∃ (g : Addr) (z : Str), vs = [.ref g] ∧ GrowAt C H g z ∧ Q (.str z) H
def spGMany (C : Addr) : Sp := fun vs H Q _ => ∃ (g : Addr) (z : Str), vs = [.ref g] ∧ GrowAt C H g z ∧ ∀ H', Same H H' → Q (.int (mn z.cps.toList)) H'
def spGLens (C : Addr) : Sp := fun vs H Q _ => ∃ (g : Addr) (z : Str), vs = [.ref g] ∧ GrowAt C H g z ∧ ∀ (m : Addr) (H' : Hp), Same H H' → H m = none → H' m = some (.lst (tabI (z.cps.toList.length + 1) (dn z.cps.toList))) → Q (.ref m) H'
theorem len_sg (c : Nat) : (sg c).length = 1 := rfl
theorem row_sg {c : Nat} (h : 97 ≤ c ∧ c ≤ 122) : IsRow (sg c) := fun d hd => by
  have : d = c := List.mem_singleton.mp (show d ∈ [c] from hd)
  rw [this]; exact h
end L2
set_option Elab.async false
set_option linter.all false
set_option maxRecDepth 100000
namespace L2
open PySem PySem.Spec PyProof.Rows
theorem tabI_ints (n : Nat) (f : Nat → Int) : tabI n f = ((List.range n).map f).map V.int := by rw [tabI, List.map_map]; rfl
/-- the heap but two things -/
def Kp2 (p g : Addr) (H H' : Hp) : Prop := ∀ b o, H b = some o → b ≠ p → b ≠ g → H' b = some o
theorem Kp2.refl (p g : Addr) (H : Hp) : Kp2 p g H H := fun _ _ h _ _ => h
theorem Kp2.trans {p g : Addr} {H H1 H2 : Hp} (a : Kp2 p g H H1) (b : Kp2 p g H1 H2) : Kp2 p g H H2 := fun c o h n m => b c o (a c o h n m) n m
theorem Same.kp2 {H H' : Hp} (s : Same H H') (p g : Addr) : Kp2 p g H H' := fun b o h _ _ => s b o h
def spLens : Sp := fun vs H Q _ => ∃ z : Str, vs = [.str z] ∧ z.length ≤ 200 ∧ ∀ (m : Addr) (H' : Hp), Same H H' → H m = none → H' m = some (.lst (tabI (z.cps.toList.length + 1) (dn z.cps.toList))) → Q (.ref m) H'
/-- what stands at the end of each letter -/
def BefAt (H : Hp) (d : Addr) (xs : List Nat) : Prop := ∃ kvs : List (Key × V), H d = some (.dK kvs) ∧ kvs.length ≤ xs.length ∧ ∀ c : Nat, (bef c xs = none → valV kvs (Sum.inr (sg c)) = none) ∧
  ∀ r, bef c xs = some r → ∃ q, valV kvs (Sum.inr (sg c)) = some (.ref q) ∧ q ≠ d ∧ H q = some (.lst (tabI (r.length + 1) (dn r)))
def spDeed (C P : Addr) : Sp := fun vs H Q _ => ∃ (p g q : Addr) (z : Str) (cs : List Nat), vs = [.ref p, .ref g, .str z, .ref q] ∧ DrawsAt H p ∧ GrowAt C H g z ∧ SignsAt H q cs ∧ q ≠ p ∧ H P = some (.ext (TabP P)) ∧
  ∀ (z' : Str) (H' : Hp), DrawsAt H' p → GrowAt C H' g z' → Kp2 p g H H' → Q (.str z') H'
def spBack (C : Addr) : Sp := fun vs H Q _ => ∃ (g : Addr) (z : Str), vs = [.ref g, .str z] ∧ GrowAt C H g z ∧ 0 < z.length ∧ ∀ H', GrowAt C H' g (undoS z) → Kp g H H' → Q (.bl true) H'
def spLong (P : Addr) : Sp := fun vs H Q _ => ∃ p : Addr, vs = [.ref p] ∧ DrawsAt H p ∧ H P = some (.ext (TabP P)) ∧ ∀ H', DrawsAt H' p → Kp p H H' → Q (.bl true) H'
theorem app_len (z : Str) (c : Nat) : (z ++ sg c).length = z.length + 1 := by rw [len_cps, app_cps, List.length_append, ← len_cps, ← len_cps, len_sg]
end L2
set_option Elab.async false
set_option linter.all false
set_option maxRecDepth 100000
namespace L2
open PySem PySem.Spec PyProof.Rows
section
variable {X : Cx}
def rIndexS : V → List V → Hp → VK → Prop := fun x xs H Q => ∃ (z : Str) (c k : Nat), x = .str z ∧ xs = [.str (sg c)] ∧ nxt z.cps.toList 0 (sg c) = some k ∧ Q (.int (k : Nat)) H
end
def pickS (z : Str) (lo : Option Int) (k : Int) : Str := ⟨((Builtin.Str.strSliceIndices lo none k z.length).filterMap (z.cps[·]?)).toArray⟩
def tStepS (te : TE) : TE := fun σ H Q => te σ H fun x H1 => ∃ z, x = .str z ∧ z.length ≤ sizeLine ∧ ∀ w : Str, (∀ c ∈ w.cps.toList, c ∈ z.cps.toList) → w.length ≤ z.length → Q (.str w) H1
section
variable {X : Cx} {e : Expr} {te : TE}
end
end L2
set_option Elab.async false
set_option linter.all false
set_option maxRecDepth 100000
namespace L2
open PySem PySem.Spec PyProof.Rows
def spRowC : Sp := fun vs H Q _ => ∃ (p q : Addr) (m : Int) (cs : List Nat), vs = [.ref p, .ref q, .int m] ∧ DrawsAt H p ∧ SignsAt H q cs ∧ q ≠ p ∧ 0 ≤ m ∧ m ≤ 80 ∧ ∀ (x : Str) (H' : Hp), IsRow x → x.length ≤ 80 → (x.length : Int) ≤ m → DrawsAt H' p → Kp p H H' → Q (.str x) H'
def hasB (z y : Str) : Bool := rowB y && (fsts z.cps.toList 0 y.cps.toList).isSome
def spHas (K : PySem.W.Frag) (C P : Addr) : Sp := fun vs H Q E => ∃ (g : Addr) (z : Str) (x : V), vs = [.ref g, x] ∧ GrowAt C H g z ∧ spIsLeft2 K P [.str z, x] H Q E
def spGrown (C P : Addr) : Sp := fun vs H Q _ => ∃ z : Str, vs = [.str z] ∧ IsRow z ∧ z.length ≤ 80 ∧ H P = some (.ext (TabP P)) ∧ ∀ (g : Addr) (H' : Hp), H g = none → GrowAt C H' g z → Same H H' → Q (.ref g) H'
def AnsAt (H : Hp) (m q : Addr) (z w : Str) : Prop := H m = some (.lst [.bl (hasB z w), .ref q, .int (mn z.cps.toList), .str z, .bl (hasB z z)]) ∧ H q = some (.lst (tabI (z.cps.toList.length + 1) (dn z.cps.toList)))
def ansD (z w : Str) : PyData := .list [.bool (hasB z w), .list (((List.range (z.cps.toList.length + 1)).map (dn z.cps.toList)).map PyData.int), .int (mn z.cps.toList), .str z, .bool (hasB z z)]
theorem AnsAt.dp {K : PySem.W.Frag} {H : Hp} {m q : Addr} {z w : Str} (h : AnsAt H m q z w) : Dp K H (.ref m) (ansD z w) := by
  obtain ⟨h1, h2⟩ := h
  rw [tabI_ints] at h2
  exact .lst (SqL.of h1) (.cons (.bl _) (.cons (Dp.ints (SqL.of h2)) (.cons (.int _) (.cons (.str _) (.cons (.bl _) .nil)))))
theorem AnsAt.same {H H' : Hp} {m q : Addr} {z w : Str} (h : AnsAt H m q z w) (s : Same H H') : AnsAt H' m q z w := ⟨s _ _ h.1, s _ _ h.2⟩
theorem AnsAt.kp2 {H H' : Hp} {m q p g : Addr} {z w : Str} (h : AnsAt H m q z w) (s : Kp2 p g H H') (n1 : m ≠ p) (n2 : m ≠ g) (n3 : q ≠ p) (n4 : q ≠ g) : AnsAt H' m q z w := ⟨s _ _ h.1 n1 n2, s _ _ h.2 n3 n4⟩
def spAns (C P : Addr) : Sp := fun vs H Q _ => ∃ (g : Addr) (z w : Str), vs = [.ref g, .str w] ∧ GrowAt C H g z ∧ w.length ≤ 80 ∧ H P = some (.ext (TabP P)) ∧ ∀ (m q : Addr) (H' : Hp), Same H H' → H m = none → H q = none → AnsAt H' m q z w → Q (.ref m) H'
def spTab2 (C P : Addr) : Sp := fun vs H Q _ => ∃ (p g : Addr) (z w : Str), vs = [.ref p, .ref g, .str z, .str w] ∧ DrawsAt H p ∧ GrowAt C H g z ∧ w.length ≤ 80 ∧ H P = some (.ext (TabP P)) ∧ ∀ H', DrawsAt H' p → GrowAt C H' g z → Kp2 p g H H' → Q (.bl true) H'
def spOtherw (P : Addr) : Sp := fun vs H Q _ => ∃ (p : Addr) (z : Str), vs = [.ref p, .str z] ∧ DrawsAt H p ∧ IsRow z ∧ z.length ≤ 80 ∧ H P = some (.ext (TabP P)) ∧ ∀ H', DrawsAt H' p → Kp p H H' → Q (.bl true) H'
def takeS (z : Str) (t : Nat) : Str := ⟨(z.cps.toList.take t).toArray⟩
end L2
set_option Elab.async false
set_option linter.all false
set_option maxRecDepth 100000
namespace L2
open PySem PySem.Spec PyProof.Rows
theorem lc_enumS {z : Str} {g : TG} {tt : TT} {te : TE} {vs : List Nat} {σ : St} {H1 : Hp} {D : Addr} {Qd : Hp → Prop} (Pv : Nat → Hp → Prop) (h0 : Pv 0 (upd H1 D (.lst [])))
    (hs : ∀ i c T H, z.cps.toList[i]? = some c → Pv i H → H T = none → g (.ref T) (wipe σ vs) (upd H T (.tup [.int (i : Nat), .str (sg c)])) fun σ2 H2 => wipe σ2 vs = wipe σ vs ∧ tt σ2 H2 fun b H3 =>
      if b = true then te σ2 H3 fun y H4 => ∃ acc, H4 D = some (.lst acc) ∧ acc.length < sizeLine ∧ Pv (i + 1) (upd H4 D (.lst (acc ++ [y]))) else Pv (i + 1) H3) (hd : ∀ H, Pv z.cps.toList.length H → Qd H) :
    ∃ W : Nat → Nat → Hp → Prop, (∃ m, W 0 m (upd H1 D (.lst []))) ∧ ∀ i m H, W i m H →
      ((IteS z).stop i H ∧ Qd H) ∨ ((IteS z).go i H ∧ ∃ Nx : Hp → Prop, (∀ H', Nx H' → ∃ m', m' < m ∧ W (i + 1) m' H') ∧ ∀ x H', (IteS z).yld i H x H' → g x (wipe σ vs) H' fun σ2 H2 => wipe σ2 vs = wipe σ vs ∧ tt σ2 H2 fun b H3 =>
        if b = true then te σ2 H3 fun y H4 => ∃ acc, H4 D = some (.lst acc) ∧ acc.length < sizeLine ∧ Nx (upd H4 D (.lst (acc ++ [y]))) else Nx H3) := by
  have hz : z.cps.size = z.cps.toList.length := by simp
  refine ⟨fun i m H => m = z.cps.toList.length - i ∧ i ≤ z.cps.toList.length ∧ Pv i H, ⟨z.cps.toList.length, by simp, Nat.zero_le _, h0⟩, ?_⟩
  rintro i m H ⟨rfl, hi, p⟩
  by_cases hlt : i < z.cps.toList.length
  · refine .inr ⟨?_, Pv (i + 1), fun H' p' => ⟨z.cps.toList.length - (i + 1), by omega, rfl, hlt, p'⟩, fun x H' y => ?_⟩
    · show i < z.cps.size
      omega
    · obtain ⟨T, c, rfl, hT, hc, rfl⟩ := y
      exact hs i c T H (by rw [Array.getElem?_toList]; exact hc) p hT
  · have e : i = z.cps.toList.length := by omega
    subst e
    exact .inl ⟨by show z.cps.size ≤ _; omega, hd H p⟩
def ThingL (K : PySem.W.Frag) (H : Hp) (v : V) : Prop := (∃ y : Str, v = .str y ∧ y.length ≤ 400) ∨ ∀ H', Same H H' → IsI K H' v "str" false
theorem ThingL.same {K : PySem.W.Frag} {H H' : Hp} {v : V} (h : ThingL K H v) (s : Same H H') : ThingL K H' v := h.imp id fun q H2 s2 => q H2 (s.trans s2)
def spIsLeftL : Sp := fun vs H Q _ => ∃ z y : Str, vs = [.str z, .str y] ∧ z.length ≤ 200 ∧ y.length ≤ 4000 ∧ Q (.bl (fsts z.cps.toList 0 y.cps.toList).isSome) H
def spWhole1 : Sp := fun vs H Q _ => ∃ n : Int, vs = [.int n] ∧ Q (.bl true) H
def spHasL (K : PySem.W.Frag) : Sp := fun vs H Q _ => ∃ (z : Str) (x : V), vs = [.str z, x] ∧ z.length ≤ 200 ∧ ((∃ y : Str, x = .str y ∧ y.length ≤ 4000 ∧ ∀ H', Same H H' → Q (.bl (hasB z y)) H') ∨ (IsI K H x "str" false ∧ Q (.bl false) H))
def spAsked (K : PySem.W.Frag) : Sp := fun vs H Q _ => ∃ (p q0 : Addr) (z : Str) (cs : List Nat), vs = [.ref p, .str z, .ref q0] ∧ DrawsAt H p ∧ SignsAt H q0 cs ∧ q0 ≠ p ∧ IsRow z ∧ z.length ≤ 80 ∧ ∀ (v : V) (H' : Hp), ThingL K H' v → DrawsAt H' p → Kp p H H' → Q v H'
structure HeldL (H : Hp) (h : Addr) (X : List Addr) (n : Nat) : Prop where
  ne : h ∉ X
  ex : ∃ ts : List Addr, H h = some (.lst (ts.map V.ref)) ∧ ts.length ≤ n ∧ ∀ t ∈ ts, t ≠ h ∧ t ∉ X ∧ ∃ (a b : Addr) (ns : List Int), H t = some (.tup [.ref a, .ref b]) ∧ a ≠ h ∧ a ∉ X ∧ b ≠ h ∧ b ∉ X ∧ H a = some (.lst (ns.map V.int)) ∧ H b = some (.lst (ns.map V.int))
theorem HeldL.keep {H H' : Hp} {h : Addr} {X : List Addr} {n : Nat} (x : HeldL H h X n) (up : ∀ (b : Addr) (o : HO), H b = some o → b ∉ X → (∀ C dx fs, o ≠ .ins C dx fs) → H' b = some o) : HeldL H' h X n := by
  obtain ⟨ts, e, l, r⟩ := x.ex
  refine ⟨x.ne, ts, up _ _ e x.ne (fun _ _ _ z => nomatch z), l, fun t ht => ?_⟩
  obtain ⟨n1, n2, a, b, ns, e1, n3, n4, n5, n6, e2, e3⟩ := r t ht
  exact ⟨n1, n2, a, b, ns, up _ _ e1 n2 (fun _ _ _ z => nomatch z), n3, n4, n5, n6, up _ _ e2 n4 (fun _ _ _ z => nomatch z), up _ _ e3 n6 (fun _ _ _ z => nomatch z)⟩
theorem HeldL.kp {H H' : Hp} {h p : Addr} {X : List Addr} {n : Nat} (x : HeldL H h X n) (hp : p ∈ X) (k : Kp p H H') : HeldL H' h X n := x.keep fun b o e nX _ => k b o e fun z => nX (z ▸ hp)
theorem HeldL.same {H H' : Hp} {h : Addr} {X : List Addr} {n : Nat} (x : HeldL H h X n) (k : Same H H') : HeldL H' h X n := x.keep fun b o e _ _ => k b o e
theorem HeldL.mono {H : Hp} {h : Addr} {X : List Addr} {n m : Nat} (x : HeldL H h X n) (l : n ≤ m) : HeldL H h X m := let ⟨ts, e, l', r⟩ := x.ex; ⟨x.ne, ts, e, Nat.le_trans l' l, r⟩
theorem HeldL.more {H : Hp} {h l : Addr} {X : List Addr} {n : Nat} (x : HeldL H h X n) (e : H l = none) : HeldL H h (l :: X) n := by
  obtain ⟨ts, e0, l', r⟩ := x.ex
  have nn : ∀ {b : Addr} {o : HO}, H b = some o → b ∉ X → b ∉ l :: X := fun eb nb z => by
    rcases List.mem_cons.mp z with z | z
    · rw [z, e] at eb; cases eb
    · exact nb z
  refine ⟨nn e0 x.ne, ts, e0, l', fun t ht => ?_⟩
  obtain ⟨n1, n2, a, b, ns, e1, n3, n4, n5, n6, e2, e3⟩ := r t ht
  exact ⟨n1, nn e1 n2, a, b, ns, e1, n3, nn e2 n4, n5, nn e3 n6, e2, e3⟩
theorem HeldL.push {H : Hp} {h t a b : Addr} {X : List Addr} {n : Nat} {ns : List Int} (x : HeldL H h X n) (et : H t = some (.tup [.ref a, .ref b])) (ea : H a = some (.lst (ns.map V.int))) (eb : H b = some (.lst (ns.map V.int))) (n1 : t ≠ h) (n2 : t ∉ X) (n3 : a ≠ h) (n4 : a ∉ X) (n5 : b ≠ h) (n6 : b ∉ X) :
    ∃ acc, H h = some (.lst acc) ∧ acc.length ≤ n ∧ HeldL (upd H h (.lst (acc ++ [.ref t]))) h X (n + 1) := by
  obtain ⟨ts, e, l, r⟩ := x.ex
  refine ⟨_, e, by rw [List.length_map]; exact l, x.ne, ts ++ [t], by rw [upd_same, List.map_append]; rfl, by rw [List.length_append]; exact Nat.succ_le_succ l, fun u hu => ?_⟩
  rcases List.mem_append.mp hu with hu | hu
  · obtain ⟨m1, m2, a, b, ns, e1, m3, m4, m5, m6, e2, e3⟩ := r u hu
    exact ⟨m1, m2, a, b, ns, by rw [upd_ne m1]; exact e1, m3, m4, m5, m6, by rw [upd_ne m3]; exact e2, by rw [upd_ne m5]; exact e3⟩
  · rw [List.mem_singleton.mp hu]
    exact ⟨n1, n2, a, b, ns, by rw [upd_ne n1]; exact et, n3, n4, n5, n6, by rw [upd_ne n3]; exact ea, by rw [upd_ne n5]; exact eb⟩
theorem HeldL.fr {H : Hp} {h q : Addr} {X : List Addr} {n : Nat} (x : HeldL H h X n) (e : H q = none) : q ≠ h := let ⟨_, e', _⟩ := x.ex; (ne_of_none e' e).symm
/-- all of these stand -/
def Stand (H : Hp) (X : List Addr) : Prop := ∀ x ∈ X, ∃ o, H x = some o
theorem Stand.out {H : Hp} {X : List Addr} (s : Stand H X) {q : Addr} (e : H q = none) : q ∉ X := fun z => by
  obtain ⟨o, h⟩ := s q z
  rw [e] at h; cases h
def spDoor (C P : Addr) : Sp := fun vs H Q _ => ∃ (p g q0 h : Addr) (X : List Addr) (z : Str) (way : Int) (cs : List Nat) (n : Nat), vs = [.ref p, .ref g, .str z, .int way, .ref q0, .ref h] ∧ DrawsAt H p ∧ GrowAt C H g z ∧ SignsAt H q0 cs ∧ q0 ≠ p ∧ p ∈ X ∧ Stand H X ∧ HeldL H h X n ∧ n ≤ 500 ∧ H P = some (.ext (TabP P)) ∧ 0 ≤ way ∧ way ≤ 3 ∧
  ∀ H', DrawsAt H' p → HeldL H' h X (n + 1) → Kp2 p h H H' → Q (.bl true) H'
def spStands (C P : Addr) : Sp := fun vs H Q _ => ∃ (p g q0 h : Addr) (z : Str) (cs : List Nat) (n : Nat), vs = [.ref p, .ref g, .str z, .ref q0, .ref h] ∧ DrawsAt H p ∧ GrowAt C H g z ∧ SignsAt H q0 cs ∧ q0 ≠ p ∧ q0 ≠ h ∧ HeldL H h [p] n ∧ n ≤ 490 ∧ H P = some (.ext (TabP P)) ∧
  ∀ H', DrawsAt H' p → HeldL H' h [p] (n + 4) → Kp2 p h H H' → Q (.bl true) H'
def spHeldStay : Sp := fun vs H Q _ => ∃ (h : Addr) (X : List Addr) (n : Nat), vs = [.ref h] ∧ HeldL H h X n ∧ n ≤ 500 ∧ ∀ H', Same H H' → Q (.bl true) H'
end L2
set_option Elab.async false
set_option linter.all false
set_option maxRecDepth 100000
set_option maxHeartbeats 1000000
namespace L2
open PySem PySem.Spec PyProof.Rows
theorem lay_led (t : SetTable) (es : Array (Int × Value)) (h : Int) (x : Value) : (layNew t es h x).2.1.led = t.led := by
  unfold layNew
  split
  · show (SetTable.orStandIn _ _).led = t.led
    unfold SetTable.orStandIn
    split <;> rfl
  · rfl
theorem relay_led (t : SetTable) (es : Array (Int × Value)) (n : Nat) : (relayAll t es n).2.1.led = t.led := by
  unfold relayAll
  split
  · rename_i t' order e
    have e2 : t'.led = t.led := by
      unfold SetTable.relaid SetTable.laid at e
      simp only [Option.bind_eq_bind] at e
      obtain ⟨ow, _, e⟩ := Option.bind_eq_some_iff.mp e
      cases e; rfl
    dsimp only
    split
    · exact e2
    · rfl
  · rfl
theorem relay_plain (t : SetTable) (es : Array (Int × Value)) (n : Nat) (h : t.plain = false) : (relayAll t es n).2.1.plain = false := by
  unfold relayAll
  split
  · rename_i t' order e
    have e2 : t'.plain = t.plain := by
      unfold SetTable.relaid SetTable.laid at e
      simp only [Option.bind_eq_bind] at e
      obtain ⟨ow, _, e⟩ := Option.bind_eq_some_iff.mp e
      cases e; rfl
    dsimp only
    split
    · rw [e2]; exact h
    · rfl
  · rfl
section
variable {prog : Program} {w : World} {A : Around} {E : Value → Shared → Prop} {s : Shared}
structure SR (prog : Program) (w : World) (h : Heap) (a : Addr) (es : List (Int × Value)) (led : Bool) : Prop where
  ex : ∃ (o : Obj) (ea : Array (Int × Value)) (ep : Nat) (t : SetTable), h.get? a = some o ∧ o.ExactSet ∧ o.data = .set ea ep t ∧ ea.toList = es ∧ t.fits ea.size = true ∧ t.led = led ∧ (ea.size = 0 ∨ t.plain = false)
  el : ElemsOf (PySem.strKind prog w) es
  bd : es.length < 4000
theorem SR.at {h h' : Heap} {a : Addr} {es : List (Int × Value)} {led : Bool} (x : SR prog w h a es led) (k : ∀ o, h.get? a = some o → h'.get? a = some o) : SR prog w h' a es led := by
  obtain ⟨o, ea, ep, t, h1, r⟩ := x.ex
  exact ⟨⟨o, ea, ep, t, k _ h1, r⟩, x.el, x.bd⟩
theorem add_tail {g : Bool → Sem Unit} (hg : ∀ (b : Bool) (s₁ : Shared) (Q' : Unit → Shared → Prop), Q' () s₁ → wpAny (model prog w) A (g b) Q' E s₁)
    {a : Addr} {o : Obj} {es : Array (Int × Value)} {ep : Nat} {t : SetTable} (ho : s.heap.get? a = some o) (hex : o.ExactSet) (hd : o.data = .set es ep t)
    {es1 : Array (Int × Value)} {t2 : SetTable} (hel1 : ElemsOf (PySem.strKind prog w) es1.toList) (hb1 : es1.size < 4000) (hf2 : t2.fits es1.size = true) (hp2 : t2.plain = false) {led : Bool} (hled : t2.led = led) {wasDummy : Bool} {R : Option Bool → Shared → Prop}
    (h : ∀ h' es', Heap.SameBut a s.heap h' → SR prog w h' a es' led → es'.Perm es1.toList → R (some true) { s with heap := h' }) :
    wpAny (model prog w) A (do
        storeSet a es1 t2
        if (!wasDummy && t2.tooFull) = true then do
            g (relayAll t2 es1 (SetTable.grown es1.size)).2.2
            storeSet a (relayAll t2 es1 (SetTable.grown es1.size)).1 (relayAll t2 es1 (SetTable.grown es1.size)).2.1
            pure (some true)
          else pure (some true)) R E s := by
  have big : ∀ {n : Nat}, n < 4000 → n ≤ sizeLine := fun hn => Nat.le_trans (Nat.le_of_lt hn) (by decide)
  have got : ∀ {h : Heap} {o : Obj} {es : Array (Int × Value)} {ep : Nat} {t : SetTable} (es' : Array (Int × Value)) (t' : SetTable), h.get? a = some o → o.data = .set es ep t → (h.update a (Obj.putSet es' t')).get? a = some { o with data := .set es' (ep + 1) t' } := by
    intro h o es ep t es' t' ho hd
    have := Heap.get?_update_self (Obj.putSet es' t') ho (by rw [putSet_of es' t' hd]; rfl)
    rw [putSet_of es' t' hd] at this; exact this
  refine wpAny_bind (wpAny_storeSet_of ho hd ?_ (big hb1))
  have ho1 := got es1 t2 ho hd
  have hsb1 := Heap.SameBut.update s.heap a (Obj.putSet es1 t2)
  split
  · have hp := relayAll_perm t2 es1 (SetTable.grown es1.size)
    have hfr := relayAll_fits t2 es1 (SetTable.grown es1.size)
    have hld := relay_led t2 es1 (SetTable.grown es1.size)
    have hpl := relay_plain t2 es1 (SetTable.grown es1.size) hp2
    generalize hRl : relayAll t2 es1 (SetTable.grown es1.size) = Rl at hp hfr hld hpl ⊢
    obtain ⟨es2, t3, gave2⟩ := Rl
    dsimp only at hp hfr hld hpl ⊢
    have hsz : es2.size = es1.size := by rw [← Array.length_toList, hp.length_eq, Array.length_toList]
    have hb2 : es2.size < 4000 := by rw [hsz]; exact hb1
    refine wpAny_bind (hg _ _ _ ?_)
    refine wpAny_bind (wpAny_storeSet_of ho1 rfl ?_ (big hb2))
    have ho2 := got es2 t3 ho1 rfl
    exact wpAny_pure (h _ es2.toList (hsb1.trans (Heap.SameBut.update _ a _)) ⟨⟨_, es2, _, t3, ho2, hex, rfl, rfl, hfr, hld.trans hled, .inr hpl⟩, hel1.perm hp, by rw [Array.length_toList]; exact hb2⟩ hp)
  · exact wpAny_pure (h _ es1.toList hsb1 ⟨⟨_, es1, _, t2, ho1, hex, rfl, rfl, hf2, hled, .inr hp2⟩, hel1, by rw [Array.length_toList]; exact hb1⟩ .rfl)
theorem add_str {a : Addr} {es : List (Int × Value)} {led : Bool} {x : Str} {t₀ : Tok} {Q : Bool → Shared → Prop} (S : SR prog w s.heap a es led) (hb : es.length + 1 < 4000)
    (hF : (∃ e ∈ es, (PySem.strKind prog w).is x e.2 = true) → Q false s)
    (hA : (∀ e ∈ es, (PySem.strKind prog w).is x e.2 = false) → ∀ h' es', Heap.SameBut a s.heap h' → SR prog w h' a es' led → es'.Perm (es ++ [((PySem.strKind prog w).hash x, .str x t₀)]) → Q true { s with heap := h' }) :
    wpAny (model prog w) A (setAddHashed a (.str x t₀) ((PySem.strKind prog w).hash x)) Q E s := by
  obtain ⟨⟨o, ea, ep, t, ho, hex, hd, he, hf, hl, hpl⟩, hel, _⟩ := S
  subst he
  have hkey : (PySem.strKind prog w).is x (.str x t₀) = true := strKind_is prog w x t₀
  have hsc : (Value.str x t₀).scannable = true := rfl
  have hbs : ea.size < scanBound := by
    rw [Array.length_toList] at hb
    exact Nat.lt_trans (by omega) (by decide : 4000 < scanBound)
  unfold setAddHashed setAddHashedIn
  refine wpAny_holding (wpAny_bind (wpAny_setState_of ho hd hf ?_))
  dsimp only
  rw [byScan_of hsc hbs hel]
  simp only [↓reduceIte]
  unfold setAddByScan
  refine wpAny_bind ?_
  refine wpAny_bind (wpAny_rule ?_)
  refine wpAny_bind (wpAny_setScan_of hkey ho hd hf hel ?_)
  cases hr : List.findIdx? (fun e => (PySem.strKind prog w).is x e.2) ea.toList with
  | some j =>
    dsimp only
    obtain ⟨hj, hpj, _⟩ := List.findIdx?_eq_some_iff_getElem.mp hr
    exact wpAny_pure (wpAny_pure (hF ⟨ea.toList[j], List.getElem_mem hj, hpj⟩))
  | none =>
    dsimp only
    have hno := List.findIdx?_eq_none_iff.mp hr
    have hgw : ∀ (b : Bool) {s₁ : Shared} {Q' : Unit → Shared → Prop}, Q' () s₁ → wpAny (model prog w) A (match b with | true => rule "set.scan.the-table-gave-way" | false => pure ()) Q' E s₁ :=
      fun b s₁ Q' hq => by cases b <;> first | exact wpAny_pure hq | exact wpAny_rule hq
    have hperm := layNew_perm t ea ((PySem.strKind prog w).hash x) (.str x t₀)
    have hfits := layNew_fits t ea ((PySem.strKind prog w).hash x) (.str x t₀)
    have hled := lay_led t ea ((PySem.strKind prog w).hash x) (.str x t₀)
    generalize hL : layNew t ea ((PySem.strKind prog w).hash x) (.str x t₀) = L at hperm hfits hled ⊢
    obtain ⟨es1, t1, wasDummy, gave⟩ := L
    dsimp only at hperm hfits hled ⊢
    rw [Array.toList_push] at hperm
    have hel1 : ElemsOf (PySem.strKind prog w) es1.toList := (hel.push hkey hsc).perm hperm
    have hb1' : es1.size < 4000 := by rw [← Array.length_toList, hperm.length_eq, List.length_append]; exact hb
    refine wpAny_bind (hgw _ ?_)
    have hend : ∀ h' es', Heap.SameBut a s.heap h' → SR prog w h' a es' led → es'.Perm es1.toList → Q true { s with heap := h' } := fun h' es' h1 h2 h3 => hA (fun e he => by simpa using hno e he) h' es' h1 h2 (h3.trans hperm)
    split
    · refine wpAny_bind ?_
      rw [hashByValue_scannable 8 hsc]
      refine wpAny_pure ?_
      refine add_tail ?_ ho hex hd hel1 hb1' (t2 := { t1 with plain := false }) (SetTable.fits_plain_off hfits) rfl (hled.trans hl) ?_
      · intro b s₁ Q' hq; cases b <;> first | exact wpAny_pure hq | exact wpAny_rule hq
      · intro h' es' hsb hS' hp'; dsimp only; exact wpAny_pure (hend h' es' hsb hS' hp')
    · rename_i hnp
      refine wpAny_bind (wpAny_pure ?_)
      simp only [↓reduceIte]
      refine add_tail ?_ ho hex hd hel1 hb1' hfits (by simpa using hnp) (hled.trans hl) ?_
      · intro b s₁ Q' hq; cases b <;> first | exact wpAny_pure hq | exact wpAny_rule hq
      · intro h' es' hsb hS' hp'; dsimp only; exact wpAny_pure (hend h' es' hsb hS' hp')
end
end L2
set_option Elab.async false
set_option linter.all false
set_option maxRecDepth 100000
set_option maxHeartbeats 3200000
namespace L2
open PySem PySem.Spec PyProof.Rows
def codeV : Value → Nat
  | .str x _ => x.cps.getD 0 0
  | _ => 0
/-- the set at S holds the signs of cs -/
structure SC (prog : Program) (w : World) (h : Heap) (S : Addr) (led : Bool) (cs : List Nat) : Prop where
  ex : ∃ es : List (Int × Value), SR prog w h S es led ∧ (∀ e ∈ es, ∃ c t, e.2 = .str (sg c) t) ∧ (es.map (fun e => codeV e.2)).Nodup ∧ ∀ c, c ∈ es.map (fun e => codeV e.2) ↔ c ∈ cs
section
variable {prog : Program} {w : World} {A : Around} {E : Value → Shared → Prop} {s : Shared}
theorem SC.at {h h' : Heap} {S : Addr} {led : Bool} {cs : List Nat} (x : SC prog w h S led cs) (k : ∀ o, h.get? S = some o → h'.get? S = some o) : SC prog w h' S led cs := by
  obtain ⟨es, a, b⟩ := x.ex
  exact ⟨es, a.at k, b⟩
theorem nodup_len : ∀ {l m : List Nat}, l.Nodup → (∀ d ∈ l, d ∈ m) → l.length ≤ m.length
  | [], _, _, _ => Nat.zero_le _
  | a :: l, m, nd, h => by
    have n := List.nodup_cons.mp nd
    have ha := h a (List.mem_cons_self ..)
    have := nodup_len (m := m.erase a) n.2 fun d hd => (List.mem_erase_of_ne (show d ≠ a from fun e => n.1 (by rw [← e]; exact hd))).mpr (h d (List.mem_cons_of_mem _ hd))
    rw [List.length_erase_of_mem ha] at this
    have : 0 < m.length := List.length_pos_of_mem ha
    rw [List.length_cons]; omega
theorem take_succ_mem {cs : List Nat} {i c : Nat} (h : cs[i]? = some c) (d : Nat) : d ∈ cs.take (i + 1) ↔ d ∈ cs.take i ∨ d = c := by
  rw [List.take_succ, h]
  simp
theorem set_loop {z : Str} {I S : Addr} {St : Nat → Heap → Prop} {R : Result → Shared → Prop} {led : Bool} (W : Walks prog w A.in1 I [I] [I] z.cps.size (SignAt z) St) (hSI : S ≠ I) (hz : z.cps.size < 3900) :
    ∀ (k i : Nat) (h : Heap) (tk : Nat), z.cps.size - i = k → i ≤ z.cps.size → St i h → SC prog w h S led (z.cps.toList.take i) →
      (∀ h' tk', (∀ b o, b ≠ S → b ≠ I → h.get? b = some o → h'.get? b = some o) → SC prog w h' S led z.cps.toList → R (.ok (.ret .none)) { s with heap := h', toks := tk' }) →
      codeAny (model prog w) A (.builtin "set.update.loop" ⟨[.ref S, .ref I], []⟩) R { s with heap := h, toks := tk } := by
  intro k
  induction k with
  | zero =>
    intro i h tk hk hi hst hS hR
    have hin : i = z.cps.size := by omega
    subst hin
    refine codeAny_builtin PyProof.Rows.F.entry_set_update_loop ?_
    rw [Around.under_plainId PyProof.Rows.F.plain_set_update_loop _]
    show wpAny _ A.in1 (pyNext (.ref I) >>= _) _ _ _
    refine wpAny_bind (W.done _ _ _ hst fun h' tk' hm => ?_)
    show wpAny _ A.in1 (ret Value.none) _ _ _
    have hm' : ∀ b o, b ≠ I → h.get? b = some o → h'.get? b = some o := fun b o hb e => hm b o (by simpa using hb) e
    refine wpAny_pure (hR h' tk' (fun b o _ h2 e => hm' b o h2 e) ?_)
    have e : z.cps.toList.take z.cps.size = z.cps.toList := List.take_of_length_le (by rw [Array.length_toList]; exact Nat.le_refl _)
    rw [e] at hS
    exact hS.at fun o q => hm' S o hSI q
  | succ k ih =>
    intro i h tk hk hi hst hS hR
    have hlt : i < z.cps.size := by omega
    refine codeAny_builtin PyProof.Rows.F.entry_set_update_loop ?_
    rw [Around.under_plainId PyProof.Rows.F.plain_set_update_loop _]
    show wpAny _ A.in1 (pyNext (.ref I) >>= _) _ _ _
    refine wpAny_bind (W.item i _ _ _ hlt hst fun v h1 tk1 hP hst1 hm => ?_)
    have hm' : ∀ b o, b ≠ I → h.get? b = some o → h1.get? b = some o := fun b o hb e => hm b o (by simpa using hb) e
    obtain ⟨c, u, hc, rfl⟩ := hP
    have hc' : z.cps.toList[i]? = some c := by rw [Array.getElem?_toList]; exact hc
    obtain ⟨es, hR1, hsh, hnd, hin⟩ := (hS.at (h' := h1) fun o q => hm' S o hSI q).ex
    show wpAny _ A.in1 (holding [Value.str (sg c) u] (setAdd S (.str (sg c) u)) >>= _) _ _ _
    refine wpAny_bind (wpAny_holding ?_)
    unfold setAdd
    refine wpAny_holding ?_
    refine wpAny_bind ((PySem.strKind prog w).pyHash (k := sg c) (strKind_is _ _ _ _) ?_)
    have hlen : es.length ≤ i := by
      have h1 : (es.map (fun e => codeV e.2)).length ≤ (z.cps.toList.take i).length := nodup_len hnd fun d hd => (hin d).mp hd
      rw [List.length_map, List.length_take] at h1
      omega
    refine add_str (s := { s with heap := h1, toks := tk1 + 1 }) hR1 (by omega) (fun hex => ?_) (fun hno h2 es2 hsb hR2 hp => ?_)
    · refine wpAny_pure ⟨plainId_quiet PyProof.Rows.F.plain_set_update_loop _, ih (i + 1) h1 (tk1 + 1) (by omega) hlt hst1 ⟨es, hR1, hsh, hnd, fun d => ?_⟩ fun h' tk' hk' hS' => hR h' tk' (fun b o a1 a2 e => hk' b o a1 a2 (hm' b o a2 e)) hS'⟩
      rw [take_succ_mem hc' d, hin d]
      refine ⟨.inl, fun q => ?_⟩
      rcases q with q | q
      · exact q
      · subst q
        obtain ⟨e, he, hk'⟩ := hex
        obtain ⟨c', t', e'⟩ := hsh e he
        rw [← hin d]
        refine List.mem_map.mpr ⟨e, he, ?_⟩
        rw [e'] at hk' ⊢
        have : sg d = sg c' := by
          have hk2 : Value.isStrOf (sg d) (.str (sg c') t') = true := hk'
          obtain ⟨_, q⟩ := Value.isStrOf_shape hk2
          injection q with q1
          exact q1.symm
        have : d = c' := by
          have h9 := congrArg (fun x : Str => x.cps.getD 0 0) this
          exact h9
        rw [this]; rfl
    · have hperm : (es2.map (fun e => codeV e.2)).Perm (es.map (fun e => codeV e.2) ++ [c]) := by
        have := hp.map (fun e => codeV e.2)
        rw [List.map_append] at this
        exact this
      have hnc : c ∉ es.map (fun e => codeV e.2) := by
        intro hc1
        obtain ⟨e, he, e1⟩ := List.mem_map.mp hc1
        obtain ⟨c', t', e'⟩ := hsh e he
        have h8 := hno e he
        rw [e'] at h8 e1
        have e2 : c' = c := e1
        subst e2
        rw [strKind_is] at h8
        cases h8
      refine wpAny_pure ⟨plainId_quiet PyProof.Rows.F.plain_set_update_loop _, ih (i + 1) h2 (tk1 + 1) (by omega) hlt (W.frame _ h1 _ hst1 fun b hb o e => ?_) ⟨es2, hR2, fun e he => ?_, ?_, fun d => ?_⟩ fun h' tk' hk' hS' => hR h' tk' (fun b o a1 a2 e => hk' b o a1 a2 ((hsb.2 b a1).trans (hm' b o a2 e))) hS'⟩
      · have hbI : b = I := by simpa using hb
        rw [hbI] at e ⊢
        exact (hsb.2 I (Ne.symm hSI)).trans e
      · rcases List.mem_append.mp (hp.mem_iff.mp he) with q | q
        · exact hsh e q
        · rw [List.mem_singleton.mp q]; exact ⟨c, u, rfl⟩
      · refine hperm.nodup_iff.mpr ?_
        rw [List.nodup_append]
        refine ⟨hnd, by simp, fun a ha b hb e => ?_⟩
        rw [List.mem_singleton.mp hb] at e
        exact hnc (e ▸ ha)
      · rw [hperm.mem_iff, List.mem_append, List.mem_singleton, take_succ_mem hc' d, hin d]
theorem setNew {a : Value} {Q₁ : Value → Shared → Prop}
    (h : Q₁ (.ref s.heap.objs.size) { s with heap := s.heap.push { cls := .type "set", dict := none, data := .set #[] 0 (.fresh 0 0 (!w.params.followText "set-order")) } }) :
    codeAny (model prog w) A (.call (.builtin "set.__new__") ⟨[.type "set", a], []⟩) (wants Q₁ E) s := by
  refine codeAny_of_tree ?_
  show wpAny _ A.in1 (do checkBuiltinCall "set.__new__" ⟨[.type "set", a], []⟩; again (.builtin "set.__new__" ⟨[.type "set", a], []⟩)) _ _ s
  refine wpAny_bind (wpAny_of_eq (PySem.F.newCall_set_1 a) (wpAny_pure ⟨plainId_quiet PySem.F.plain_set_new _, codeAny_builtin PySem.F.entry_set_new ?_⟩))
  rw [Around.under_plainId PySem.F.plain_set_new _]
  unfold Builtin.«set.__new__» Builtin.Frozenset.newClass
  have hsub := sub_set_self
  obtain ⟨hp, g, d, tk, os⟩ := s
  dsimp only
  wp_walk
  refine wpAny_askSetting (wpAny_pure ?_)
  dsimp only
  simp only [newObj]
  refine wpAny_bind (wpAny_alloc (wpAny_pure ?_))
  exact wpAny_pure h
end
end L2
set_option Elab.async false
set_option linter.all false
set_option maxRecDepth 100000
set_option maxHeartbeats 3200000
namespace L2
open PySem PySem.Spec PyProof.Rows
section
variable {prog : Program} {w : World} {A : Around} {E : Value → Shared → Prop} {s : Shared}
theorem walks_str (hh : A.handled = none) (I : Addr) (z : Str) (t : Tok) : Walks prog w A I [I] [I] z.cps.size (SignAt z) (fun i h => h.IsStrIter I (strIterType z) z t i) := by
  unfold strIterType
  split
  · exact Walks.strAscii hh I z t
  · exact Walks.strWide hh I z t
theorem call_set_str {z : Str} {t : Tok} {Q : Value → Shared → Prop} (hh : A.handled = none) (hz : z.cps.size < 3900)
    (h : ∀ (h' : Heap) (tk : Nat), SC prog w h' s.heap.objs.size (!w.params.followText "set-order") z.cps.toList →
      (∀ b o, s.heap.get? b = some o → h'.get? b = some o) → Q (.ref s.heap.objs.size) { s with heap := h', toks := tk }) :
    wpAny (model prog w) A (call (.type "set") [.str z t]) Q E s := by
  obtain ⟨c, tl, hmro⟩ := PySem.F.called_set.mro
  have hmade := PySem.F.called_set.made
  have hsub := PySem.F.called_set.sub
  refine wpAny_call (codeAny_of_tree ?_)
  show wpAny _ _ (callAny (.type "set") _) _ _ _
  refine wpAny_pure ⟨Code.quiet_builtin _ (by decide +kernel), codeAny_builtin PySem.F.entry_type_call ?_⟩
  rw [Around.under_plain (weight_type_call_type "set" [.str z t] []) rfl]
  have h1 := PySem.F.called_set.notType
  have h2 := PySem.F.called_set.canCreate
  have hct := PySem.F.typeCall_set_1 (.str z t)
  repeat (any_goals (first | assumption | wp_step))
  generalize hled : (!w.params.followText "set-order") = led at h
  refine codeAny_mono (setNew (a := .str z t) (E := E) (Q₁ := fun obj s₁ => obj = .ref s.heap.objs.size ∧ s₁ = { s with heap := s.heap.push { cls := .type "set", dict := none, data := .set #[] 0 (.fresh 0 0 led) } }) (by rw [hled]; exact ⟨rfl, rfl⟩)) fun r s₁ hr => ?_
  cases r with
  | error e => exact hr
  | ok fl =>
    cases fl with
    | ret obj =>
      obtain ⟨rfl, rfl⟩ := hr
      have hS : (s.heap.push { cls := .type "set", dict := none, data := .set #[] 0 (.fresh 0 0 led) }).get? s.heap.objs.size = some { cls := .type "set", dict := none, data := .set #[] 0 (.fresh 0 0 led) } := Heap.get?_push_size _ rfl
      have hT : Shared.TypeIs { s with heap := s.heap.push { cls := .type "set", dict := none, data := .set #[] 0 (.fresh 0 0 led) } } (.ref s.heap.objs.size) "set" := ⟨_, hS, rfl⟩
      have hli := PySem.F.called_set.init.lookup
      have hbi := PySem.F.called_set.init.bind (.ref s.heap.objs.size)
      repeat (any_goals (first | assumption | wp_step))
      refine codeAny_mono (codeAny_call_builtin (R := wants (fun r s₂ => r = .none ∧ ∃ h' tk, s₂ = { s with heap := h', toks := tk } ∧ SC prog w h' s.heap.objs.size led z.cps.toList ∧
          (∀ b o, s.heap.get? b = some o → h'.get? b = some o)) E) PySem.F.called_set.init.plain PySem.F.entry_set_init (check_set_init_1 hT ?_)) fun r₂ s₂ hr₂ => ?_
      · have hsls := PySem.F.sub_str_set
        have hslf := PySem.F.sub_str_frozenset
        have hne : (Value.type "str" == Value.type "dict") = false := by decide
        unfold Builtin.«set.__init__» noKeywords Builtin.Frozenset.updateFrom
        generalize hPI : pyIter = PI
        wp_walk
        subst hPI
        refine wpAny_pyIter_strU ?_
        refine wpAny_bind (wpAny_runValue ?_)
        have hh3 : A.in1.in1.in1.handled = none := by simp [hh]
        have hz1 : (s.heap.push { cls := .type "set", dict := none, data := .set #[] 0 (.fresh 0 0 led) }).objs.size = s.heap.objs.size + 1 := Heap.size_push ..
        have hSI : s.heap.objs.size ≠ (s.heap.push { cls := .type "set", dict := none, data := .set #[] 0 (.fresh 0 0 led) }).objs.size := by
          rw [hz1]; exact Nat.ne_of_lt (Nat.lt_succ_self _)
        refine set_loop (s := s) (z := z) (S := s.heap.objs.size) (led := led) (walks_str hh3 _ z t) hSI hz (z.cps.size - 0) 0 _ _ (by omega) (Nat.zero_le _)
          ⟨_, Heap.get?_push_size _ rfl, rfl, rfl⟩ ⟨[], ⟨⟨_, #[], 0, _, Heap.get?_push_of_some _ hS, ⟨rfl, rfl, rfl⟩, rfl, rfl, by rfl, rfl, .inl rfl⟩, fun e he => by simp at he, by decide⟩, fun e he => by simp at he, List.Pairwise.nil, fun c => by simp⟩ ?_
        intro h' tk' hk hS'
        show wpAny _ _ _ _ _ _
        refine wpAny_pure ?_
        show wpAny _ _ (ret Value.none) _ _ _
        refine wpAny_pure ⟨rfl, h', tk', rfl, hS', fun b o e => ?_⟩
        have hb := Heap.lt_size e
        exact hk b o (Nat.ne_of_lt hb) (by rw [hz1]; exact Nat.ne_of_lt (Nat.lt_succ_of_lt hb)) (Heap.get?_push_of_some _ (Heap.get?_push_of_some _ e))
      · cases r₂ with
        | error e => exact hr₂
        | ok fl₂ =>
          cases fl₂ with
          | ret r =>
            obtain ⟨rfl, h', tk, rfl, hS', hk'⟩ := hr₂
            repeat (any_goals (first | assumption | wp_step))
            exact h _ _ hS' hk'
          | _ => exact hr₂.elim
    | _ => exact hr.elim
end
end L2
set_option Elab.async false
set_option linter.all false
set_option maxRecDepth 100000
namespace L2
open PySem PySem.Spec PyProof.Rows
def tLenSet (ta : TA) : TE := fun σ H Q => ta σ H fun vs H1 => ∃ z : Str, vs = [.str z] ∧ z.length < 3900 ∧ ∀ ds : List Nat, ds.Nodup → (∀ c, c ∈ ds ↔ c ∈ z.cps.toList) → Q (.int (ds.length : Nat)) H1
end L2
set_option Elab.async false
set_option linter.all false
set_option maxRecDepth 100000
namespace L2
open PySem PySem.Spec PyProof.Rows
theorem cut_len (x : Str) (lo hi : Option Int) : (cutS x lo hi).length = min (HT.sIx x.length x.length hi - HT.sIx x.length 0 lo) (x.length - HT.sIx x.length 0 lo) := by
  rw [len_cps, cut_cps, List.length_take, List.length_drop, ← len_cps]
theorem cutA (x : Str) {a : Int} (h : 0 ≤ a) : (cutS x none (some a)).length = min a.toNat x.length := by
  rw [cut_len, HT.sIx_none, sIx_pos _ _ h]; omega
theorem cutB (x : Str) {a : Int} (h : 0 ≤ a) : (cutS x (some a) none).length = x.length - a.toNat := by
  rw [cut_len, HT.sIx_none, sIx_pos _ _ h]; omega
theorem cutC (x : Str) {a b : Int} (h : 0 ≤ a) (h' : 0 ≤ b) : (cutS x (some a) (some b)).length = min (min b.toNat x.length - min a.toNat x.length) (x.length - min a.toNat x.length) := by
  rw [cut_len, sIx_pos _ _ h, sIx_pos _ _ h']
theorem lenApp (x y : Str) : (x ++ y).length = x.length + y.length := by rw [len_cps, app_cps, List.length_append, ← len_cps, ← len_cps]
/-- from which length on it is left -/
def begO (cs ys : List Nat) : Nat := match fsts cs 0 ys with | none => cs.length + 1 | some ks => match ks.getLast? with | none => 0 | some k => k + 1
def spOtherC : Sp := fun vs H Q _ => ∃ (p q0 : Addr) (z : Str) (cs : List Nat), vs = [.ref p, .str z, .ref q0, .int 80] ∧ DrawsAt H p ∧ SignsAt H q0 cs ∧ q0 ≠ p ∧ IsRow z ∧ z.length ≤ 80 ∧ ∀ (x : Str) (H' : Hp), IsRow x → x.length ≤ 80 → DrawsAt H' p → Kp p H H' → Q (.str x) H'
def spRightG (P : Addr) : Sp := fun vs H Q _ => ∃ z y : Str, vs = [.str z, .str y] ∧ IsRow z ∧ IsRow y ∧ z.length ≤ 80 ∧ y.length ≤ 80 ∧ H P = some (.ext (TabP P)) ∧ ∀ H', Same H H' → Q (.bl true) H'
end L2
set_option Elab.async false
set_option linter.all false
set_option maxRecDepth 100000
namespace L2
open PySem PySem.Spec PyProof.Rows
def risB (cs : List Nat) : Bool := (List.range (cs.length - 1)).all fun i => decide (cs.getD i 0 < cs.getD (i + 1) 0)
def LetOk (z : Str) : Prop := IsRow z ∧ z.cps.toList ≠ [] ∧ z.cps.toList.Pairwise (· < ·)
def letB (z : Str) : Bool := rowB z && (decide (z.length ≠ 0) && risB z.cps.toList)
def spIsLetters (K : PySem.W.Frag) (P1 P2 : Addr) : Sp := fun vs H Q _ => ∃ x, vs = [x] ∧ ((∃ z : Str, x = .str z ∧ z.length ≤ 4000 ∧ H P1 = some (.ext (TabP P1)) ∧ H P2 = some (.ext (TabP P2)) ∧ Q (.bl (letB z)) H) ∨ (IsI K H x "str" false ∧ Q (.bl false) H) ∨ ∃ a, x = .ref a ∧ H a = some (.ext (ExcP "ValueError" a)) ∧ Q (.bl false) H)
def spHasAll (P : Addr) : Sp := fun vs H Q _ => ∃ (u : V) (z : Str), vs = [u, .str z] ∧ H P = some (.ext (TabP P)) ∧
  ((∃ y : Str, u = .str y ∧ Q (.bl (z.cps.toList.all fun c => decide (c ∈ y.cps.toList))) H) ∨ ∃ d kvs, u = .ref d ∧ Rd H d (.dK kvs) ∧ Q (.bl (z.cps.toList.all fun c => (valV kvs (Sum.inr (sg c))).isSome)) H)
def arE (ls : List Nat) : List Nat → List Nat → Nat → List Nat
  | [], _, _ => []
  | c :: cs, ms, p => if ms.filter (fun d => !decide (d = c)) = [] then (p + 1) :: arE ls cs ls (p + 1) else arE ls cs (ms.filter fun d => !decide (d = c)) (p + 1)
theorem idx_in {c : Nat} : ∀ {xs : List Nat}, (idx c xs).isSome = decide (c ∈ xs)
  | [] => by simp [idx]
  | x :: xs => by
    show (if x = c then some 0 else (idx c xs).map (· + 1)).isSome = _
    by_cases h : x = c
    · rw [if_pos h, h]; simp
    · rw [if_neg h, Option.isSome_map, idx_in]
      have h' : ¬ c = x := fun e => h e.symm
      simp [h']
/-- what a list of ends shows -/
def shB (row ls : List Nat) : Nat → List Int → Bool
  | _, [] => true
  | s, e :: es => decide (0 ≤ e ∧ e < (row.length : Int) + 1) && (ls.all (fun c => decide (c ∈ (row.drop s).take (e.toNat - s))) && shB row ls e.toNat es)
def spPlaceI : Sp := fun vs H Q _ => ∃ a b : Int, vs = [.int a, .int b] ∧ Q (.bl (decide (0 ≤ a ∧ a < b))) H
def spArches (K : PySem.W.Frag) (P1 P2 P3 : Addr) : Sp := fun vs H Q _ => ∃ z l : Str, vs = [.str z, .str l] ∧ z.length ≤ 200 ∧ LetOk l ∧ H P1 = some (.ext (TabP P1)) ∧ H P2 = some (.ext (TabP P2)) ∧ H P3 = some (.ext (TabP P3)) ∧
  ∀ (m : Addr) (H' : Hp), Same H H' → H m = none → H' m = some (.lst (nInt (arE l.cps.toList z.cps.toList l.cps.toList 0))) → Q (.ref m) H'
def spArchesL : Sp := fun vs H Q _ => ∃ z l : Str, vs = [.str z, .str l] ∧ z.length ≤ 200 ∧ IsRow l ∧ l.length ≤ 26 ∧ ∀ (m : Addr) (H' : Hp), Same H H' → H m = none → H' m = some (.lst (nInt (arE l.cps.toList z.cps.toList l.cps.toList 0))) → Q (.ref m) H'
def spShowsI (K : PySem.W.Frag) (P1 P2 P3 : Addr) : Sp := fun vs H Q _ => ∃ (z l : Str) (t : Addr) (ns : List Int), vs = [.str z, .str l, .ref t] ∧ z.length ≤ 200 ∧ LetOk l ∧ SqL K H t (ns.map V.int) ∧ H P1 = some (.ext (TabP P1)) ∧ H P2 = some (.ext (TabP P2)) ∧ H P3 = some (.ext (TabP P3)) ∧
  Q (if shB z.cps.toList l.cps.toList 0 ns then .int ns.length else .non) H
def spSomeL : Sp := fun vs H Q _ => ∃ (p q : Addr) (cs : List Nat), vs = [.ref p, .ref q] ∧ DrawsAt H p ∧ SignsAt H q cs ∧ q ≠ p ∧ ∀ (l : Str) (H' : Hp), LetOk l → l.length ≤ 26 → DrawsAt H' p → Kp p H H' → Q (.str l) H'
def spRightA (P1 P2 P3 : Addr) : Sp := fun vs H Q _ => ∃ z l : Str, vs = [.str z, .str l] ∧ z.length ≤ 80 ∧ LetOk l ∧ l.length ≤ 26 ∧ H P1 = some (.ext (TabP P1)) ∧ H P2 = some (.ext (TabP P2)) ∧ H P3 = some (.ext (TabP P3)) ∧ ∀ H', Same H H' → Q (.bl true) H'
theorem LetOk.len {l : Str} (h : LetOk l) : l.length ≤ 26 := by
  have h1 := nodup_len (l := l.cps.toList) (m := (List.range 26).map (97 + ·)) (h.2.2.imp fun a => Nat.ne_of_lt a) fun d hd => by
    obtain ⟨a, b⟩ := h.1 d hd
    exact List.mem_map.mpr ⟨d - 97, List.mem_range.mpr (by omega), by omega⟩
  rw [List.length_map, List.length_range, ← len_cps] at h1
  exact h1
end L2
namespace L2
open PySem PySem.Spec PyProof.Rows
theorem dpAll_strs {K : PySem.W.Frag} {H : Hp} : ∀ zs : List Str, DpAll K H (zs.map V.str) (strsD zs)
  | [] => .nil
  | z :: zs => .cons (.str z) (dpAll_strs zs)
theorem Dp.strs {K : PySem.W.Frag} {H : Hp} {a : Addr} {zs : List Str} (h : SqL K H a (zs.map V.str)) : Dp K H (.ref a) (.list (strsD zs)) := .lst h (dpAll_strs zs)
theorem DrawsAt.over {H : Hp} {p q : Addr} {o : HO} (h : DrawsAt H p) (n : q ≠ p) : DrawsAt (upd H q o) p := by
  obtain ⟨ns, e, z⟩ := h.ex
  exact ⟨ns, by rw [upd_ne n.symm]; exact e, z⟩
/-- some letters, sorted -/
structure SmAt (H : Hp) (m : Addr) (cs : List Nat) : Prop where
  at_ : H m = some (.lst ((cs.map sg).map V.str))
  ne : cs ≠ []
  le : cs.length ≤ 60
  ok : ∀ c ∈ cs, 97 ≤ c ∧ c ≤ 122
end L2
set_option Elab.async false
set_option linter.all false
set_option maxRecDepth 100000
namespace L2
open PySem PySem.Spec PyProof.Rows
end L2
namespace L2
open PySem PySem.Spec PyProof.Rows
def rLtL (K : PySem.W.Frag) : R2 := fun x y H Q => ∃ (a b : Addr) (ns ms : List Nat) (j p q : Nat), x = .ref a ∧ y = .ref b ∧ SqL K H a (ns.map fun k => V.int (k : Nat)) ∧ SqL K H b (ms.map fun k => V.int (k : Nat)) ∧ ns[j]? = some p ∧ ms[j]? = some q ∧ p < q ∧ ns.take j = ms.take j ∧ Q (.bl true) H
end L2
set_option Elab.async false
set_option linter.all false
set_option maxRecDepth 100000
namespace L2
open PySem PySem.Spec PyProof.Rows
/-- all but the exception and the frames' slots stays -/
structure But (fs : List Addr) (ch : List Addr) (h h' : Heap) : Prop where
  keep : ∀ b o, b ∉ ch → b ∉ fs → h.get? b = some o → h'.get? b = some o
  slot : ∀ b o, b ∉ ch → h.get? b = some o → ∃ sl, h'.get? b = some { o with slots := sl }
/-- an exception with a trace at T whose flight is fl -/
structure FlyAt (h : Heap) (e T : Addr) (cls fl : Value) : Prop where
  ex : ∃ oe vs oT ts, h.get? e = some oe ∧ oe.cls = cls ∧ oe.data = Data.fields vs ∧ vs[1]? = some (Value.ref T) ∧ T ≠ e ∧ h.get? T = some oT ∧ oT.data = Data.fields ts ∧ ts[3]? = some fl
section
variable {M : Model} {A : Around} {E : Value → Shared → Prop} {s : Shared} {env : Env} {outer : List Env} {base : Heap} {L e : Addr} {oe : Obj} {vs : Array Value} {Q : Unit → Shared → Prop}
end
end L2
set_option Elab.async false
set_option linter.all false
set_option maxRecDepth 100000
namespace L2
open PySem PySem.Spec PyProof.Rows
theorem But.frames {fs ch : List Addr} {h h' base : Heap} (b : But fs ch h h') : ∀ {l : List Env}, (∀ c ∈ frs l, c ∉ ch) → h.FunFrames base l → h'.FunFrames base l
  | [], _, _ => trivial
  | env :: r, hs, hl => by
    obtain ⟨hk, ⟨L, o, hf, hn, ho, hd⟩, hr⟩ := hl
    have hL : L ∈ frs (env :: r) := by unfold frs; rw [List.filterMap_cons, hf]; exact List.mem_cons_self
    obtain ⟨sl, e⟩ := b.slot L o (hs L hL) ho
    exact ⟨hk, ⟨L, _, hf, hn, e, hd⟩, b.frames (fun c hc => hs c (by unfold frs at hc ⊢; rw [List.filterMap_cons, hf]; exact List.mem_cons_of_mem _ hc)) hr⟩
theorem But.mono {fs fs' ch ch' : List Addr} {h h' : Heap} (b : But fs ch h h') (h1 : ∀ x ∈ fs, x ∈ fs') (h2 : ∀ x ∈ ch, x ∈ ch') : But fs' ch' h h' :=
  ⟨fun c o n1 n2 => b.keep c o (fun z => n1 (h2 c z)) (fun z => n2 (h1 c z)), fun c o n => b.slot c o (fun z => n (h2 c z))⟩
theorem But.trans {fs ch : List Addr} {h h1 h2 : Heap} (a : But fs ch h h1) (b : But fs ch h1 h2) : But fs ch h h2 :=
  ⟨fun c o n1 n2 q => b.keep c o n1 n2 (a.keep c o n1 n2 q), fun c o n q => by
    obtain ⟨sl, e⟩ := a.slot c o n q
    obtain ⟨sl', e'⟩ := b.slot c _ n e
    exact ⟨sl', e'⟩⟩
section
variable {M : Model} {A : Around} {E : Value → Shared → Prop} {s : Shared} {env : Env} {outer : List Env} {base : Heap} {L e : Addr} {Q : Unit → Shared → Prop}
end
end L2
set_option Elab.async false
set_option linter.all false
set_option maxRecDepth 100000
namespace L2
open PySem PySem.Spec PyProof.Rows
/-- how an exception of an own class lies behind a call -/
def CXe (P : Program) (w : World) : CXT := fun outer H s E e s' => ∃ (a T C : Addr) (H' : Hp), e = .ref a ∧ s'.os = s.os ∧ AllBare s'.gens ∧ Un (frs outer) [] H H' s.heap s'.heap ∧ HOk P w H' s'.heap ∧ FlyAt s'.heap a T (.ref C) Value.none ∧ s.heap.get? a = none ∧ s.heap.get? T = none ∧ H' a = none ∧ H' T = none ∧ E (.ref C) none H'
theorem hok_free {P : Program} {w : World} {H : Hp} {h : Heap} (x : HOk P w H h) {a : Addr} (e : h.get? a = none) : H a = none := by
  cases q : H a with
  | none => rfl
  | some u => obtain ⟨v, z⟩ := (x a u q).ex; rw [e] at z; cases z
end L2
set_option Elab.async false
set_option linter.all false
set_option maxRecDepth 100000
namespace L2
open PySem PySem.Spec PyProof.Rows
end L2
set_option Elab.async false
set_option linter.all false
set_option maxRecDepth 100000
namespace L2
open PySem PySem.Spec PyProof.Rows
section
variable {X : Cx} {pins : List (Addr × Obj)} {σ : St} {H : Hp} {s : Shared} {h' : Heap}
/-- a thing of nobody: made since the entry, not tracked, no frame, no cell, no pin -/
structure Loose (X : Cx) (pins : List (Addr × Obj)) (H : Hp) (b : Addr) : Prop where
  un : H b = none
  up : X.s_0.heap.get? b = none
  nl : b ≠ X.env.locals
  nc : ∀ x c, X.env.cells.lookup x = some c → c ≠ b
  np : ∀ p ∈ X.pn ++ pins, p.1 ≠ b
theorem Inv.loose (I : Inv X pins σ H s) {b : Addr} (hx : b ∉ X.ex) (e : s.heap.get? b = none) : Loose X pins H b := by
  refine ⟨hok_free I.hok e, ?_, ?_, ?_, ?_⟩
  · cases q : X.s_0.heap.get? b with
    | none => rfl
    | some o =>
      obtain ⟨o', z⟩ := I.base.there b o q (fun z => hx z)
      rw [e] at z; cases z
  · intro z
    obtain ⟨m, ⟨o, _, _, ho, _⟩, _⟩ := I.loc
    rw [← z, e] at ho; cases ho
  · intro x c hc z
    obtain ⟨v, o, ho, _⟩ := I.cell x c hc
    rw [z, e] at ho; cases ho
  · intro p hp z
    have := (I.pin p hp).1
    rw [z, e] at this; cases this
theorem Inv.but {ch : List Addr} (I : Inv X pins σ H s) (b : But (frs X.stack) ch s.heap h') (hl : ∀ c ∈ ch, Loose X pins H c) : Inv X pins σ H { s with heap := h' } := by
  have nch : ∀ c u, H c = some u → c ∉ ch := fun c u e z => by rw [(hl c z).un] at e; cases e
  have n0 : ∀ c o, X.s_0.heap.get? c = some o → c ∉ ch := fun c o e z => by rw [(hl c z).up] at e; cases e
  have ns : ∀ c o, X.s_0.heap.get? c = some o → c ∉ X.fs → c ∉ frs X.stack := fun c o e n z => by
    rcases List.mem_cons.mp (I.stkSub c z) with z | z
    · have h1 := Heap.lt_size e
      have h2 := I.ok.above
      rw [z] at h1
      exact absurd h1 (Nat.not_lt.mpr h2)
    · exact n z
  refine ⟨I.ok, I.os, I.bare, ⟨fun c o e n n1 n2 => b.keep c o (n0 c o e) (ns c o e n1) (I.base.keep c o e n n1 n2), fun c o e n n1 n2 => ?_, I.base.free, fun c o e n => ?_, I.base.tups, I.base.frzs, I.base.tbls⟩, ?_, fun x c e => ?_, I.free, I.freeC, fun p hp => ?_, fun c u e => ?_, I.len⟩
  · obtain ⟨sl, q⟩ := I.base.slot c o e n n1 n2
    obtain ⟨sl', q'⟩ := b.slot c _ (n0 c o e) q
    exact ⟨sl', q'⟩
  · obtain ⟨o', q⟩ := I.base.there c o e n
    obtain ⟨sl, q'⟩ := b.slot c o' (n0 c o e) q
    exact ⟨_, q'⟩
  · obtain ⟨m, ⟨o, es, ep, ho, r⟩, hv⟩ := I.loc
    obtain ⟨sl, q⟩ := b.slot _ o (fun z => (hl _ z).nl rfl) ho
    refine ⟨m, ⟨_, es, ep, q, r⟩, fun i x v h1 h2 h3 => ?_⟩
    obtain ⟨u, ru, lk⟩ := hv i x v h1 h2 h3
    refine ⟨u, ru, ?_⟩
    rcases lk with lk | ⟨lk, c, hc, o', ho', hd'⟩
    · exact .inl lk
    · obtain ⟨sl', q'⟩ := b.slot c o' (fun z => (hl c z).nc x c hc rfl) ho'
      exact .inr ⟨lk, c, hc, _, q', hd'⟩
  · obtain ⟨v, o', ho', hd'⟩ := I.cell x c e
    obtain ⟨sl', q'⟩ := b.slot c o' (fun z => (hl c z).nc x c e rfl) ho'
    exact ⟨v, _, q', hd'⟩
  · obtain ⟨q1, q2, q3, q4, q5⟩ := I.pin p hp
    refine ⟨b.keep p.1 p.2 (fun z => (hl _ z).np p hp rfl) (fun z => ?_) q1, q2, q3, q4, q5⟩
    rcases List.mem_cons.mp (I.stkSub _ z) with z | z
    · exact q3 z
    · exact q4 z
  · refine (I.hok c u e).stay (fun d v hd q => ?_) (fun _ q => q) fun _ _ q => q
    have tr : ∃ w, H d = some w := by
      rcases hd with rfl | hd
      · exact ⟨_, e⟩
      · exact ⟨_, hd⟩
    obtain ⟨w', hw⟩ := tr
    exact b.keep d v (nch d _ hw) (fun z => by rw [I.stkFree d z] at hw; cases hw) q
/-- an exception of an own class -/
def ExcO (C a : Addr) : Heap → Prop := fun h => ∃ o, h.get? a = some o ∧ o.cls = .ref C
end
end L2
set_option Elab.async false
set_option linter.all false
set_option maxRecDepth 100000
namespace L2
open PySem PySem.Spec PyProof.Rows
/-- raise C(e), C an own class under a builtin exception -/
def tRaise (t : TA) (R : Hp → Prop) : TS := fun _ σ H => t σ H fun vs H1 => vs.length ≤ sizeLine ∧ R H1
section
variable {P : Program} {w : World} {K : PySem.W.Frag} {mg : Str → Option Value} {base : Heap}
end
theorem PS.nox {X : Cx} {st : Stmt} {t : TS} (h : PS X.nox st t) : PS X st t := fun pins s σ H D I hw =>
  wpAny_mono (h pins s σ H D (I.wish _) hw) (fun _ _ q => q.unwish) fun _ _ z => False.elim z
/-- the same context, within an except suite -/
abbrev Cx.inExc (X : Cx) (e : Value) (E : Value → Shared → Prop) : Cx := { X with A := X.A.mark (some e), calm := false, xe := E }
theorem Inv.inExc {X : Cx} {pins : List (Addr × Obj)} {σ : St} {H : Hp} {s : Shared} (I : Inv X pins σ H s) (e : Value) (E : Value → Shared → Prop) : Inv (X.inExc e E) pins σ H s :=
  ⟨⟨I.ok.mod, I.ok.kind, I.ok.glob, I.ok.blt, I.ok.above, I.ok.inj, I.ok.has, I.ok.cab, (fun z => nomatch z), I.ok.frames, I.ok.stk, I.ok.exf, I.ok.bs, I.ok.bsz, I.ok.noex, I.ok.exfs, I.ok.funs, I.ok.frf⟩, I.os, I.bare, I.base, I.loc, I.cell, I.free, I.freeC, I.pin, I.hok, I.len⟩
end L2
set_option Elab.async false
set_option linter.all false
set_option maxRecDepth 100000
namespace L2
open PySem PySem.Spec PyProof.Rows
/-- what an exception's class must be to be caught by C2 -/
def Under (base : Heap) (C C2 : Addr) : Prop := ∃ bm N nm q bs hdct sn sub ab col dd k0 k1 k2 k3 k5 newId, base.get? C = some (excClassObj nm q C N bs bm hdct sn sub ab col dd k0 k1 k2 k3 k5 newId) ∧ (Value.ref C :: bm).contains (Value.ref C2) = true
/-- try: f(..) except C2 as n: v = n -/
def tTryC (base : Heap) (sp : Sp) (t : TA) (C2 : Addr) (iv ie : Nat) : TS := fun D σ H => t σ H fun vs H1 => sp vs H1 (fun _ H' => D.nx σ H') (fun cls _ H' => ∃ C, cls = .ref C ∧ Under base C C2 ∧ ∀ a, H' a = none → D.nx (((σ.set ie (some (.ref a))).set iv (some (.ref a))).set ie none) (upd H' a (.ext (ExcO C a))))
end L2
set_option Elab.async false
set_option linter.all false
set_option maxRecDepth 100000
set_option maxHeartbeats 4000000
namespace L2
open PySem PySem.Spec PyProof.Rows
def tTryM (base : Heap) (CI : Addr) (m : Str) (sp : Sp) (ta : TE) (t : TA) (C2 : Addr) (iv ie : Nat) : TS := fun D σ H => ta σ H fun x H0 => ∃ a dx fs, x = .ref a ∧ H0 a = some (.ins CI dx fs) ∧ fs.lookup m = none ∧ t σ H0 fun vs H1 => sp (x :: vs) H1 (fun _ H' => D.nx σ H') (fun cls _ H' => ∃ C, cls = .ref C ∧ Under base C C2 ∧ ∀ a, H' a = none → D.nx (((σ.set ie (some (.ref a))).set iv (some (.ref a))).set ie none) (upd H' a (.ext (ExcO C a))))
end L2
set_option Elab.async false
set_option linter.all false
set_option maxRecDepth 100000
set_option maxHeartbeats 4000000
namespace L2
open PySem PySem.Spec PyProof.Rows
abbrev TSx := Ends → (Addr → Hp → Prop) → St → Hp → Prop
/-- an exception of the class at C flies here -/
def Fly (X : Cx) (pins : List (Addr × Obj)) (σ : St) (R : Addr → Hp → Prop) (e : Value) (s' : Shared) : Prop := ∃ (a T C : Addr) (H' : Hp), e = .ref a ∧ Inv X pins σ H' s' ∧ FlyAt s'.heap a T (.ref C) Value.none ∧ Loose X pins H' a ∧ Loose X pins H' T ∧ R C H'
def PSx (X : Cx) (st : Stmt) (t : TSx) : Prop := ∀ (pins : List (Addr × Obj)) (s : Shared) (σ : St) (H : Hp) (D : Ends) (R : Addr → Hp → Prop), Inv X pins σ H s → t D R σ H → wpAny (model X.prog X.w) X.A (exec st X.env) (SP X pins D) (Fly X pins σ R) s
def PSxs (X : Cx) (st : List Stmt) (t : TSx) : Prop := ∀ (pins : List (Addr × Obj)) (s : Shared) (σ : St) (H : Hp) (D : Ends) (R : Addr → Hp → Prop), Inv X pins σ H s → t D R σ H → wpAny (model X.prog X.w) X.A (execs st X.env) (SP X pins D) (Fly X pins σ R) s
def txCall (sp : Sp) (t : TA) : TSx := fun D R σ H => t σ H fun vs H1 => sp vs H1 (fun _ H' => D.nx σ H') (fun cls _ H' => ∃ C, cls = .ref C ∧ R C H')
def txNext (t : TSx) : TSx := t
def txIf (c : TT) (t u : TSx) : TSx := fun D R σ H => c σ H fun b H1 => if b = true then t D R σ H1 else u D R σ H1
/-- try: .. except C2 as n: v = n -/
def tTry (base : Heap) (t : TSx) (C2 : Addr) (iv ie : Nat) : TS := fun D σ H => t D (fun C H' => Under base C C2 ∧ ∀ a, H' a = none → D.nx (((σ.set ie (some (.ref a))).set iv (some (.ref a))).set ie none) (upd H' a (.ext (ExcO C a)))) σ H
end L2
set_option Elab.async false
set_option linter.all false
set_option maxRecDepth 100000
namespace L2
open PySem PySem.Spec PyProof.Rows
open Sem (wp)
section
variable {prog : Program} {w : World} {A : Around} {E : Value → Shared → Prop} {h : Heap} {g : Array GenState} {d : Drawn} {t : Nat} {os : OsState} {a C : Addr} {o : Obj}
/-- what an own exception class has of its base's lookups -/
structure LkO (M : Model) (h : Heap) (C : Addr) : Prop where
  ga : W.Looks M h (typeLookup (.ref C) "__getattribute__") (some (.builtin "BaseException.__getattribute__"))
  gt : W.Looks M h (typeLookup (.ref C) "__getattr__") none
  cl : W.Looks M h (typeLookup (.ref C) "__class__") (some (.builtin "object.__class__"))
  sb : W.Looks M h (isSubtype (.ref C) (.type "object")) true
end
end L2
set_option Elab.async false
set_option linter.all false
set_option maxRecDepth 100000
namespace L2
open PySem PySem.Spec PyProof.Rows
abbrev bmVE : List Value := [.type "ValueError", .type "Exception", .type "BaseException", .type "object"]
/-- the facts of an own exception class C under an own one L under ValueError -/
structure ExcK (K : W.Frag) (C : Addr) : Prop where
  obj : ∃ nm q N bs L hdct sn sub ab col dd k0 k1 k2 k3 k5 newId cL ddL cd slL, K.lookup C = some (excClassObj nm q C N bs (.ref L :: bmVE) hdct sn sub ab col dd k0 k1 k2 k3 k5 newId) ∧ K.lookup L = some ⟨cL, ddL, .cls cd, slL⟩ ∧ W.nsOkIn K cd.ns = true ∧ (∀ n ∈ quietNames, W.nsIn K cd.ns n = some none)
  ga : W.findIn K (.ref C) "__getattribute__" = some (some (.builtin "BaseException.__getattribute__"))
  gt : W.findIn K (.ref C) "__getattr__" = some none
  cl : W.findIn K (.ref C) "__class__" = some (some (.builtin "object.__class__"))
  sb : W.subIn K (.ref C) (.type "object") = some true
theorem ExcK.lk {K : W.Frag} {C : Addr} (x : ExcK K C) {M : Model} {h : Heap} (i : K.In h) : LkO M h C := ⟨W.looks_findIn i x.ga, W.looks_findIn i x.gt, W.looks_findIn i x.cl, W.looks_subIn i x.sb⟩
end L2
set_option Elab.async false
set_option linter.all false
set_option maxRecDepth 100000
set_option maxHeartbeats 4000000
namespace L2
open PySem PySem.Spec PyProof.Rows
abbrev VEat (H : Hp) (x : V) : Prop := ∃ a, x = .ref a ∧ H a = some (.ext (ExcP "ValueError" a))
def spPlcA (K : PySem.W.Frag) : Sp := fun vs H Q _ => ∃ (x : V) (m : Int), vs = [x, .int m] ∧ ((∃ n, x = .int n ∧ Q (.bl (decide (0 ≤ n ∧ n < m))) H) ∨ (∃ b, x = .bl b ∧ Q (.bl false) H) ∨ (IsI K H x "int" false ∧ Q (.bl false) H) ∨ (VEat H x ∧ Q (.bl false) H))
def BadI (K : PySem.W.Frag) (H : Hp) (m : Int) (x : V) : Prop := (∃ n : Int, x = .int n ∧ ¬ (0 ≤ n ∧ n < m)) ∨ (∃ b, x = .bl b) ∨ (∀ H', Same H H' → IsI K H' x "int" false) ∨ VEat H x
theorem BadI.same {K : PySem.W.Frag} {H H' : Hp} {m : Int} {x : V} (b : BadI K H m x) (s : Same H H') : BadI K H' m x := by
  rcases b with h | h | h | ⟨a, h1, h2⟩
  · exact .inl h
  · exact .inr (.inl h)
  · exact .inr (.inr (.inl fun H2 s2 => h H2 (s.trans s2)))
  · exact .inr (.inr (.inr ⟨a, h1, s _ _ h2⟩))
def NotL (K : PySem.W.Frag) (H : Hp) (z : Str) (x : V) : Prop := (∃ y : Str, x = .str y ∧ y.length ≤ 4000 ∧ (rowB y && (fsts z.cps.toList 0 y.cps.toList).isSome) = false) ∨ (∀ H', Same H H' → IsI K H' x "str" false) ∨ VEat H x
theorem NotL.same {K : PySem.W.Frag} {H H' : Hp} {z : Str} {x : V} (b : NotL K H z x) (s : Same H H') : NotL K H' z x := by
  rcases b with h | h | ⟨a, h1, h2⟩
  · exact .inl h
  · exact .inr (.inl fun H2 s2 => h H2 (s.trans s2))
  · exact .inr (.inr ⟨a, h1, s _ _ h2⟩)
/-- left_at refuses -/
def spLeftB (K : PySem.W.Frag) (C : Addr) : Sp := fun vs H _ E => ∃ (z : Str) (x : V), vs = [.str z, x] ∧ z.length ≤ 200 ∧ BadI K H (mn z.cps.toList) x ∧ ∀ H', Same H H' → E (.ref C) none H'
/-- place_of, place_in_length refuse -/
def spPlaceB (K : PySem.W.Frag) (P C : Addr) : Sp := fun vs H _ E => ∃ (z : Str) (x : V), vs = [.str z, x] ∧ z.length ≤ 200 ∧ H P = some (.ext (TabP P)) ∧ NotL K H z x ∧ ∀ H', Same H H' → E (.ref C) none H'
/-- what is known of the classes of refusals, one by one -/
structure RefsJ (K : PySem.W.Frag) (mg : Str → Option Value) (C1 C2 C3 C4 C5 C6 : Addr) : Prop where
  m1 : mg "NoPlace" = some (.ref C1)
  m2 : mg "NoRow" = some (.ref C2)
  m3 : mg "NoLetters" = some (.ref C3)
  m4 : mg "NoLetter" = some (.ref C4)
  m5 : mg "NoText" = some (.ref C5)
  m6 : mg "NoCommand" = some (.ref C6)
  mV : mg "ValueError" = none
/-- of which of six classes an exception is -/
structure OfSix (K : PySem.W.Frag) (C C1 C2 C3 C4 C5 C6 : Addr) (b1 b2 b3 b4 b5 b6 : Bool) : Prop where
  xk : ExcK K C
  o1 : PySem.W.kitOne K (.ref C) (.ref C1) = some b1
  o2 : PySem.W.kitOne K (.ref C) (.ref C2) = some b2
  o3 : PySem.W.kitOne K (.ref C) (.ref C3) = some b3
  o4 : PySem.W.kitOne K (.ref C) (.ref C4) = some b4
  o5 : PySem.W.kitOne K (.ref C) (.ref C5) = some b5
  o6 : PySem.W.kitOne K (.ref C) (.ref C6) = some b6
  val : PySem.W.kitOne K (.ref C) (.type "ValueError") = some true
def spJust (C1 C2 : Addr) : Sp := fun vs H Q _ => ∃ (a : Addr) (n : Int), vs = [.ref a, .int n] ∧ ((n = 0 ∧ H a = some (.ext (ExcO C1 a))) ∨ (n = 1 ∧ H a = some (.ext (ExcO C2 a)))) ∧ ∀ H', Same H H' → Q (.bl true) H'
end L2
set_option Elab.async false
set_option linter.all false
set_option maxRecDepth 100000
set_option maxHeartbeats 4000000
namespace L2
open PySem
def NoLet (K : PySem.W.Frag) (H : Hp) (x : V) : Prop := (∃ y : Str, x = .str y ∧ y.length ≤ 4000 ∧ letB y = false) ∨ (∀ H', Same H H' → IsI K H' x "str" false) ∨ VEat H x
theorem NoLet.same {K : PySem.W.Frag} {H H' : Hp} {x : V} (b : NoLet K H x) (s : Same H H') : NoLet K H' x := by
  rcases b with h | h | ⟨a, h1, h2⟩
  · exact .inl h
  · exact .inr (.inl fun H2 s2 => h H2 (s.trans s2))
  · exact .inr (.inr ⟨a, h1, s _ _ h2⟩)
/-- the same, also when the thing at p changes -/
def NoLetP (K : PySem.W.Frag) (p : Addr) (H : Hp) (x : V) : Prop := (∃ y : Str, x = .str y ∧ y.length ≤ 4000 ∧ letB y = false) ∨ (∀ H', Kp p H H' → IsI K H' x "str" false) ∨ ∃ a, x = .ref a ∧ a ≠ p ∧ H a = some (.ext (ExcP "ValueError" a))
theorem NoLetP.kp {K : PySem.W.Frag} {p : Addr} {H H' : Hp} {x : V} (b : NoLetP K p H x) (s : Kp p H H') : NoLetP K p H' x := by
  rcases b with h | h | ⟨a, h1, h2, h3⟩
  · exact .inl h
  · exact .inr (.inl fun H2 s2 => h H2 (s.trans s2))
  · exact .inr (.inr ⟨a, h1, h2, s _ _ h3 h2⟩)
def spArB (K : PySem.W.Frag) (P1 P2 C : Addr) : Sp := fun vs H _ E => ∃ (z x : V), vs = [z, x] ∧ H P1 = some (.ext (TabP P1)) ∧ H P2 = some (.ext (TabP P2)) ∧ NoLet K H x ∧ ∀ H', Same H H' → E (.ref C) none H'
def spShB (K : PySem.W.Frag) (P1 P2 C : Addr) : Sp := fun vs H _ E => ∃ (z x t : V), vs = [z, x, t] ∧ H P1 = some (.ext (TabP P1)) ∧ H P2 = some (.ext (TabP P2)) ∧ NoLet K H x ∧ ∀ H', Same H H' → E (.ref C) none H'
def spRef40 (K : PySem.W.Frag) (P1 P2 : Addr) : Sp := fun vs H Q _ => ∃ (n : Int) (z x t : V), vs = [.int n, z, x, t] ∧ (n = 0 ∨ n = 1) ∧ H P1 = some (.ext (TabP P1)) ∧ H P2 = some (.ext (TabP P2)) ∧ NoLet K H x ∧ ∀ H', Same H H' → Q (.bl true) H'
def spNoLets (K : PySem.W.Frag) : Sp := fun vs H Q _ => ∃ (p : Addr) (l : Str), vs = [.ref p, .str l] ∧ DrawsAt H p ∧ LetOk l ∧ ∀ (m : Addr) (xs : List V) (H' : Hp), H' m = some (.lst xs) → m ≠ p → xs.length ≤ 40 → (∀ x ∈ xs, NoLetP K p H' x) → DrawsAt H' p → Kp p H H' → Q (.ref m) H'
end L2
set_option Elab.async false
set_option linter.all false
set_option maxRecDepth 100000
set_option maxHeartbeats 4000000
namespace L2
open PySem PySem.Spec PyProof.Rows
/-- all that lies in a heap, but one thing -/
def allBut (h : Heap) (L : Addr) : List (Addr × Obj) := (List.range h.objs.size).filterMap fun b => if b = L then none else (h.get? b).map fun o => (b, o)
theorem nothing (b : Addr) : (({} : Heap)).get? b = none := by
  cases e : (({} : Heap)).get? b with
  | none => rfl
  | some o => exact absurd (Heap.lt_size e) (Nat.not_lt_zero _)
def argMin (zs : List Str) (i : Nat) : Prop := ∀ (j : Nat) (z z' : Str), zs[i]? = some z → zs[j]? = some z' → z.length ≤ z'.length ∧ (j < i → z.length < z'.length)
def argMax (zs : List Str) (i : Nat) : Prop := ∀ (j : Nat) (z z' : Str), zs[i]? = some z → zs[j]? = some z' → z'.length ≤ z.length ∧ (j < i → z'.length < z.length)
def rMinLen (K : PySem.W.Frag) : List V → Hp → VK → Prop := fun vs H Q => ∃ (a : Addr) (zs : List Str), vs = [V.ref a] ∧ SqL K H a (zs.map V.str) ∧ zs ≠ [] ∧ (∀ z ∈ zs, z.length ≤ sizeLine) ∧ ∀ (i : Nat) (z : Str), zs[i]? = some z → argMin zs i → Q (.str z) H
def rMaxLen (K : PySem.W.Frag) : List V → Hp → VK → Prop := fun vs H Q => ∃ (a : Addr) (zs : List Str), vs = [V.ref a] ∧ SqL K H a (zs.map V.str) ∧ zs ≠ [] ∧ (∀ z ∈ zs, z.length ≤ sizeLine) ∧ ∀ (i : Nat) (z : Str), zs[i]? = some z → argMax zs i → Q (.str z) H
def tMinLen (K : PySem.W.Frag) (t : TA) : TE := fun σ H Q => t σ H fun vs H1 => rMinLen K vs H1 Q
end L2
set_option Elab.async false
set_option linter.all false
set_option maxRecDepth 100000
set_option maxHeartbeats 4000000
namespace L2
open PySem PySem.Spec PyProof.Rows
section
variable {prog : Program} {w : World} {A : Around} {E : Value → Shared → Prop} {s : Shared}
/-- the five parts of a walk by zip lie apart -/
structure Apart5 (z ti to_ : Addr) (f1 f2 : List Addr) (i1 i2 : Addr) : Prop where
  a1 : ti ≠ z
  a2 : to_ ≠ z
  a3 : ti ≠ to_
  z1 : z ∉ f1
  z2 : z ∉ f2
  o1 : to_ ∉ f1
  o2 : to_ ∉ f2
  x12 : i1 ∉ f2
  x21 : i2 ∉ f1
  m1 : i1 ∈ f1
  m2 : i2 ∈ f2
  t1 : ti ≠ i1
  t2 : ti ≠ i2
abbrev zs1 (h : Heap) (x : Str) (t : Tok) : Heap := h.push { cls := .type (strIterType x), data := .fields #[.str x t, .int 0 0] }
abbrev zs2 (h : Heap) (x : Str) (t : Tok) (l : Addr) : Heap := (zs1 h x t).push { cls := .type "list_iterator", data := .fields #[.ref l, .int 0 0] }
abbrev zs3 (h : Heap) (x : Str) (t : Tok) (l : Addr) : Heap := (zs2 h x t l).push { cls := .type "tuple", data := .seq #[.ref h.objs.size, .ref (zs1 h x t).objs.size] }
abbrev zs4 (h : Heap) (x : Str) (t : Tok) (l : Addr) : Heap := (zs3 h x t l).push { cls := .type "tuple", data := .seq #[.none, .none] }
abbrev zs5 (h : Heap) (x : Str) (t : Tok) (l : Addr) : Heap := (zs4 h x t l).push { cls := .type "zip", data := .fields #[.none, .bool false, .bool false, .ref (zs2 h x t l).objs.size, .ref (zs3 h x t l).objs.size] }
end
end L2
set_option Elab.async false
set_option linter.all false
set_option maxRecDepth 100000
set_option maxHeartbeats 4000000
namespace L2
open PySem PySem.Spec PyProof.Rows
def Itzs (K : PySem.W.Frag) (x : Str) (b : Addr) : It :=
  ⟨fun i H => ∃ (ys : List V) (c : Nat) (y : V), SqL K H b ys ∧ x.cps.toList[i]? = some c ∧ ys[i]? = some y,
    fun i H v H' => ∃ (T : Addr) (c : Nat) (y : V), v = .ref T ∧ H T = none ∧ H' = upd H T (.tup [.str (sg c), y]) ∧ x.cps.toList[i]? = some c ∧ ∀ ys, SqL K H b ys → ys[i]? = some y,
    fun i H => ∃ ys : List V, SqL K H b ys ∧ (x.cps.toList.length = i ∨ (i < x.cps.toList.length ∧ ys.length = i))⟩
def iZipS (K : PySem.W.Frag) (ta : TA) : TI := fun σ H R => ta σ H fun vs H1 => ∃ (x : Str) (b : Addr) (ys : List V), vs = [.str x, .ref b] ∧ SqL K H1 b ys ∧ R (Itzs K x b) H1
end L2
set_option Elab.async false
set_option linter.all false
set_option maxRecDepth 100000
namespace L2
open PySem PySem.Spec PyProof.Rows
abbrev TIU := St → Hp → (List (V × V) → Hp → Prop) → Prop
def PIU (X : Cx) (iter : Expr) (ti : TIU) : Prop :=
  ∀ (pins : List (Addr × Obj)) (s : Shared) (σ : St) (H : Hp) (R : List (V × V) → Hp → Prop), Inv X pins σ H s → ti σ H R →
    wpAny (model X.prog X.w) X.A (eval iter X.env) (fun xv s1 => wpAny (model X.prog X.w) X.A (pyIter xv) (fun it s2 => ∃ (I : Addr) (fp : List Addr) (Pt : Nat → Array Value → Prop) (St₀ : Nat → Heap → Prop) (Mid : Nat → Addr → Heap → Prop) (kvs : List (V × V)) (H1 : Hp),
      it = .ref I ∧ Inv X pins σ H1 s2 ∧ FpOk X pins H1 I ∧ (∀ b ∈ fp, b < s2.heap.objs.size) ∧ (∀ b ∈ fp, ∀ P, H1 b = some (.ext (TabP P)) → False) ∧ (∀ A' : Around, A'.handled = none → WalksU X.prog X.w A' I fp [I] kvs.length Pt St₀ Mid) ∧ St₀ 0 s2.heap ∧
        (∀ i vals, Pt i vals → ∃ x y u v, kvs[i]? = some (x, y) ∧ RelV x u ∧ RelV y v ∧ vals = #[u, v]) ∧ R kvs H1) X.xe s1) X.xe s
abbrev lv2 (xa : Str) (x : V) (xb : Str) (y : V) : LV := fun z => if z = xa then some x else if z = xb then some y else none
def tSumG (P : Addr) (ti : TIU) (xa xb : Str) (tt te : TG2) : TE := fun σ H Q => ti σ H fun kvs H1 => H1 P = some (.ext (TabP P)) ∧ ∃ (pz : Nat → Bool) (val : Nat → Int),
  (∀ i x y, kvs[i]? = some (x, y) → (tt (lv2 xa x xb y) σ H1 fun r => r = .bl (pz i)) ∧ (pz i = true → te (lv2 xa x xb y) σ H1 fun r => r = .int (val i))) ∧ Q (.int (((List.range kvs.length).filter pz).map val).sum) H1
section
variable {X : Cx} {elt iter cond : Expr} {ti : TIU} {t tt : TG2} {xa xb : Str} {pa pb pt p gpos pos : Pos} {kt : Nat} {scope : Scope} {cl : List (Str × Addr)} {c P : Addr} {k : Nat}
end
section
variable {X : Cx} {e : Expr} {td : TE} {apos cpos : Pos}
def iGItems (td : TE) : TIU := fun σ H R => td σ H fun x H1 => ∃ d kvs, x = .ref d ∧ H1 d = some (.dK kvs) ∧ R (kvs.map fun kv => (kV kv.1, kv.2)) H1
end
end L2
set_option Elab.async false
set_option linter.all false
set_option maxRecDepth 100000
namespace L2
open PySem PySem.Spec PyProof.Rows
/-- ways to take so many -/
def ch : Nat → Nat → Nat
  | _, 0 => 1
  | 0, _ + 1 => 0
  | n + 1, k + 1 => ch n k + ch n (k + 1)
def lasti (c : Nat) (xs : List Nat) : Int := match bef c xs with | none => -1 | some r => (r.length : Int)
section
variable {X : Cx}
def rRfindS : V → List V → Hp → VK → Prop := fun x xs H Q => ∃ (z : Str) (c : Nat), x = .str z ∧ xs = [.str (sg c)] ∧ Q (.int (lasti c z.cps.toList)) H
end
def nextL (c : Nat) : Nat := if c = 122 then 97 else c + 1
def spCalled : Sp := fun vs H Q _ => ∃ z : Str, vs = [.str z] ∧ IsRow z ∧ z.length ≤ 200 ∧ ∀ (y : Str) (H' : Hp), y.cps.toList = z.cps.toList.map nextL → Same H H' → Q (.str y) H'
def spRight1 : Sp := fun vs H Q _ => ∃ z : Str, vs = [.str z] ∧ IsRow z ∧ z.length ≤ 80 ∧ ∀ H', Same H H' → Q (.bl true) H'
def spMoreR : Sp := fun vs H Q _ => ∃ (z : Str) (c : Nat), vs = [.str z, .str (sg c)] ∧ z.length ≤ 80 ∧ ∀ H', Same H H' → Q (.bl true) H'
def spApartR : Sp := fun vs H Q _ => ∃ z y : Str, vs = [.str z, .str y] ∧ IsRow z ∧ IsRow y ∧ z.length ≤ 80 ∧ y.length ≤ 80 ∧ ∀ H', Same H H' → Q (.bl true) H'
end L2
namespace L2
open PySem PySem.Spec PyProof.Rows
def lowL (c : Nat) : Nat := 97 + (c - 97) % 13
def highL (c : Nat) : Nat := 97 + (13 + (c - 97) % 13)
end L2
set_option Elab.async false
set_option linter.all false
set_option maxRecDepth 100000
set_option maxHeartbeats 3200000
namespace L2
open PySem PySem.Spec PyProof.Rows
theorem owner_si : Manifest.owners.lookup (String.ofList ['r', 'o', 't', 'a', 'r', 'e', 't', 'i', '_', 't', 'e', 's'].reverse) = some Manifest.sig_set_iterator := by kernel_rfl
theorem slot_si_next : Slot "set_iterator" "__next__" "set_iterator.__next__" :=
  .of (owner := "set_iterator") (n := "__next__") (by rw [typeLookup_type, builtinLookup_eq_fast]; kernel_rfl) (by decide +kernel) (by decide +kernel) (by decide +kernel)
    (by first | exact .inl (by decide +kernel) | exact .inr (by decide +kernel)) (by rw [isSubtype_type]; kernel_rfl)
theorem entry_si_next : entryFor table "set_iterator.__next__" = some Builtin.«set_iterator.__next__» := entryFor_of_tree (by kernel_rfl)
theorem args_si_next (a : Value) : argsOk "set_iterator.__next__" ⟨[a], []⟩ := by
  unfold argsOk; rw [signature?_of (id := "set_iterator.__next__") (n := ['_', '_', 't', 'x', 'e', 'n', '_', '_']) (o := ['r', 'o', 't', 'a', 'r', 'e', 't', 'i', '_', 't', 'e', 's']) (by kernel_rfl) owner_si]; kernel_rfl
theorem slot_si_iter : Slot "set_iterator" "__iter__" "set_iterator.__iter__" :=
  .of (owner := "set_iterator") (n := "__iter__") (by rw [typeLookup_type, builtinLookup_eq_fast]; kernel_rfl) (by decide +kernel) (by decide +kernel) (by decide +kernel)
    (by first | exact .inl (by decide +kernel) | exact .inr (by decide +kernel)) (by rw [isSubtype_type]; kernel_rfl)
theorem args_si_iter (a : Value) : argsOk "set_iterator.__iter__" ⟨[a], []⟩ := by
  unfold argsOk; rw [signature?_of (id := "set_iterator.__iter__") (n := ['_', '_', 'r', 'e', 't', 'i', '_', '_']) (o := ['r', 'o', 't', 'a', 'r', 'e', 't', 'i', '_', 't', 'e', 's']) (by kernel_rfl) owner_si]; kernel_rfl
theorem entry_si_iter : entryFor table "set_iterator.__iter__" = some Builtin.«dict_keyiterator.__iter__» :=
  entryFor_alias (id' := "dict_keyiterator.__iter__") (by kernel_rfl) (by first | rfl | decide +kernel | (unfold String.splitOn; simp +decide [String.splitOnAux])) (by decide +kernel) (by kernel_rfl)
theorem entry_set_it : entryFor table "set.__iter__" = some Builtin.«frozenset.__iter__» :=
  entryFor_alias (id' := "frozenset.__iter__") (by kernel_rfl) (by first | rfl | decide +kernel | (unfold String.splitOn; simp +decide [String.splitOnAux])) (by decide +kernel) (by kernel_rfl)
theorem set_len : typeLookup (.type "set") "__len__" = pure (some (.builtin "set.__len__")) := by rw [typeLookup_type, builtinLookup_eq_fast]; kernel_rfl
section
variable {prog : Program} {w : World} {A : Around} {E : Value → Shared → Prop} {s : Shared}
theorem cons_erase_perm {α : Type} : ∀ {l : List α} {i : Nat} (h : i < l.length), (l[i] :: l.eraseIdx i).Perm l
  | a :: l, 0, _ => .rfl
  | a :: l, i + 1, h => by
    have h' : i < l.length := by simpa using h
    exact (List.Perm.swap a l[i] (l.eraseIdx i)).trans ((cons_erase_perm h').cons a)
theorem pick_go {α : Type} (next : Nat → Nat) : ∀ (fuel k : Nat) (left : List α) (out : Array α), left.length ≤ fuel → (pickOrder.go next fuel k left out).toList.Perm (out.toList ++ left)
  | 0, k, left, out, h => by
    have e : left = [] := List.eq_nil_of_length_eq_zero (by omega)
    subst e
    unfold pickOrder.go
    rw [List.append_nil]
  | fuel + 1, k, [], out, h => by
    unfold pickOrder.go
    simp
  | fuel + 1, k, x :: xs, out, h => by
    unfold pickOrder.go
    have hi : next k % (x :: xs).length < (x :: xs).length := Nat.mod_lt _ (by simp)
    rw [List.getElem?_eq_getElem hi]
    dsimp only
    refine (pick_go next fuel (k + 1) _ _ (by rw [List.length_eraseIdx_of_lt hi]; simp at h ⊢; omega)).trans ?_
    rw [Array.toList_push, List.append_assoc]
    exact List.Perm.append_left _ (cons_erase_perm hi)
theorem pick_perm {α : Type} (next : Nat → Nat) (xs : Array α) : (pickOrder next xs).toList.Perm xs.toList := by
  have := pick_go next xs.size 0 xs.toList #[] (by rw [Array.length_toList]; exact Nat.le_refl _)
  exact this
theorem wp_choose {src : Source} {n : Nat} {Q : Nat → Shared → Prop} (hn : n ≠ 0) (h : ∀ i, i < n → Q i { s with drawn := s.drawn.bump src }) : wpAny (model prog w) A (choose src n) Q E s :=
  fun _ _ _ => ⟨hn, h _ (Nat.mod_lt _ (Nat.pos_of_ne_zero hn))⟩
theorem draw_perm {α : Type} : ∀ (n : Nat) (xs : List α) (s : Shared) (Q : List α → Shared → Prop), n = xs.length → (∀ ys d, ys.Perm xs → Q ys { s with drawn := d }) → wpAny (model prog w) A (drawOrder n xs) Q E s
  | 0, xs, s, Q, hn, h => by
    have e : xs = [] := List.eq_nil_of_length_eq_zero hn.symm
    subst e
    unfold drawOrder
    exact wpAny_pure (h [] s.drawn .rfl)
  | n + 1, [], s, Q, hn, h => by simp at hn
  | n + 1, x :: xs, s, Q, hn, h => by
    unfold drawOrder
    refine wpAny_bind (wp_choose (by simp) fun i hi => ?_)
    rw [List.getElem?_eq_getElem hi]
    dsimp only
    refine wpAny_bind (draw_perm n ((x :: xs).eraseIdx i) _ _ ?_ fun ys d hp => wpAny_pure ?_)
    · rw [List.length_eraseIdx_of_lt hi]
      simp at hn ⊢
      omega
    · exact h _ d ((hp.cons _).trans (cons_erase_perm hi))
/-- the set iterator -/
abbrev SI (h : Heap) (I S : Addr) (first : Value) (i : Int) (n ep : Nat) : Prop := h.get? I = some { cls := .type "set_iterator", dict := none, data := .fields #[first, rawInt i, .ref S, rawInt n, rawInt ep], slots := #[] }
structure SO (h : Heap) (S : Addr) (ea : Array (Int × Value)) (ep : Nat) (t : SetTable) : Prop where
  ex : ∃ o : Obj, h.get? S = some o ∧ o.data = .set ea ep t
  ft : t.fits ea.size = true
theorem SO.at {h h' : Heap} {S : Addr} {ea : Array (Int × Value)} {ep : Nat} {t : SetTable} (x : SO h S ea ep t) (k : ∀ o, h.get? S = some o → h'.get? S = some o) : SO h' S ea ep t := by
  obtain ⟨⟨o, a, b⟩, c⟩ := x
  exact ⟨⟨o, k _ a, b⟩, c⟩
theorem SO.state {S : Addr} {ea : Array (Int × Value)} {ep : Nat} {t : SetTable} {Q : (Array (Int × Value) × Nat × SetTable) → Shared → Prop} (x : SO s.heap S ea ep t) (h : Q (ea, ep, t) s) : wpAny (model prog w) A (setState S) Q E s := by
  obtain ⟨⟨o, a, b⟩, c⟩ := x
  exact wpAny_setState_of a b c h
theorem stop_now {α : Type} {Q : α → Shared → Prop} {E' : Value → Shared → Prop} (hh : A.handled = none) (h : ∀ h' e, (∀ b o, s.heap.get? b = some o → h'.get? b = some o) → (∃ o, h'.get? e = some o ∧ o.cls = .type "StopIteration") → E' (.ref e) { s with heap := h' }) :
    wpAny (model prog w) A (newExc (.type "StopIteration") [] >>= fun e => (raiseNew e : Sem α)) Q E' s := by
  refine wpAny_bind ?_
  simp only [newExc, newTuple]
  refine wpAny_bind (wpAny_newObj_type ?_ (by size_fits))
  refine wpAny_bind (m := firstArgMember _ _) (wpAny_of_eq (a := Value.none) (by first | rfl | (simp only [firstArgMember]; rfl)) ?_)
  refine wpAny_newObj_type ?_ (by size_fits)
  refine wpAny_raiseNew_none hh ?_
  exact h _ _ (fun b o e => Heap.get?_push_of_some _ (Heap.get?_push_of_some _ e)) ⟨_, Heap.get?_push_size _ rfl, rfl⟩
def vAt (ea : Array (Int × Value)) (j : Nat) : Option Value := (ea[j]?).map Prod.snd
theorem vAt_lt {ea : Array (Int × Value)} {j : Nat} (h : j < ea.size) : vAt ea j = some ea[j].2 := by unfold vAt; rw [Array.getElem?_eq_getElem h]; rfl
/-- the three ways of walking: what is told at i -/
inductive How (w : World) (h : Heap) (S : Addr) (ea : Array (Int × Value)) (ep : Nat) (t : SetTable) : Value → Nat → List Value → Prop
  | drawn (T : Addr) (ord : List Nat) (i : Nat) : h.get? T = some { cls := .type "tuple", data := .seq (ord.map fun (j : Nat) => rawInt j).toArray } → (∀ j ∈ ord, j < ea.size) → How w h S ea ep t (.ref T) i (ord.filterMap (vAt ea))
  | text (i : Nat) : w.params.followText "set-order" = true → How w h S ea ep t (rawInt 0) i ((pickOrder (w.params.setOrder S ep) ea).toList.map (·.2))
  | none : w.params.followText "set-order" = false → ea.size = 0 → How w h S ea ep t (rawInt 0) 0 []
  | one0 (x : Int × Value) : w.params.followText "set-order" = false → ea = #[x] → t.led = true → How w h S ea ep t (rawInt 0) 0 [x.2]
  | one1 (x : Int × Value) (j : Nat) : w.params.followText "set-order" = false → ea = #[x] → t.led = true → t.place = #[j] → How w h S ea ep t (rawInt (j + 1)) 1 [x.2]
theorem below_one (j : Nat) (d : Nat) : SetTable.below #[j] d = if j < d then 1 else 0 := by
  unfold SetTable.below
  show SetTable.below.go #[j] d 1 0 1 = _
  unfold SetTable.below.go
  rw [if_pos (by decide)]
  show (if (#[j] : Array Nat).getD ((0 + 1) / 2) d < d then SetTable.below.go #[j] d 0 ((0 + 1) / 2 + 1) 1 else SetTable.below.go #[j] d 0 0 ((0 + 1) / 2)) = _
  show (if j < d then SetTable.below.go #[j] d 0 (0 + 1) 1 else SetTable.below.go #[j] d 0 0 0) = _
  split <;> rfl
theorem byText_ {Q : Bool → Shared → Prop} (h : Q (w.params.followText "set-order") s) : wpAny (model prog w) A setsByText Q E s := by
  unfold setsByText
  exact wpAny_bind (wpAny_askSetting (wpAny_pure h))
/-- one step of the code behind the fields -/
theorem si_next {I S : Addr} {first : Value} {i n ep : Nat} {ea : Array (Int × Value)} {t : SetTable} {ws : List Value} {x : Value} {Q : Option Value → Shared → Prop}
    (hI : SI s.heap I S first i n ep) (hS : SO s.heap S ea ep t) (hn : ea.size = n) (hw : How w s.heap S ea ep t first i ws) (hne : S ≠ I) (hTI : ∀ T, first = .ref T → T ≠ I) (hx : ws[i]? = some x)
    (hQ : ∀ h' first', SI h' I S first' ((i : Int) + 1) n ep → Heap.SameBut I s.heap h' → How w h' S ea ep t first' (i + 1) ws → (∀ T, first' = .ref T → first = .ref T) → Q (some x) { s with heap := h' }) :
    wpAny (model prog w) A (pyNext (.ref I)) Q E s := by
  have hT : s.TypeIs (.ref I) "set_iterator" := ⟨_, hI, rfl⟩
  unfold pyNext
  refine wpAny_bind (wpAny_attempt (wpAny_callSpecial?_slot (name := Str.ofString "__next__") hT slot_si_next (wpAny_call_entry slot_si_next hT entry_si_next ?_ (args_si_next _))))
  unfold Builtin.«set_iterator.__next__»
  refine wpAny_bind (wpAny_of_eq (a := (Value.ref I, [])) rfl ?_)
  dsimp only
  refine wpAny_bind (wpAny_fieldsOf hI rfl ?_)
  dsimp only
  unfold setEntries
  refine wpAny_bind (wpAny_bind (hS.state (wpAny_pure ?_)))
  dsimp only
  refine wpAny_ite_split (fun hab => absurd hab (by rw [hn]; simp)) fun _ => ?_
  cases hw with
  | drawn T ord i hTt hord =>
    dsimp only
    refine wpAny_bind (wpAny_seqItems hTt rfl ?_)
    dsimp only
    obtain ⟨j, hj, hjx⟩ : ∃ j, ord[i]? = some j ∧ vAt ea j = some x := by
      have key : ∀ (l : List Nat) (i : Nat), (∀ j ∈ l, j < ea.size) → (l.filterMap (vAt ea))[i]? = some x → ∃ j, l[i]? = some j ∧ vAt ea j = some x := by
        intro l
        induction l with
        | nil => intro i _ h; simp at h
        | cons a l ih =>
          intro i hb h
          have ha := hb a (List.mem_cons_self ..)
          have e := vAt_lt ha
          rw [List.filterMap_cons_some e] at h
          cases i with
          | zero => exact ⟨a, rfl, by rw [e]; simpa using h⟩
          | succ i => exact ih i (fun j hj => hb j (List.mem_cons_of_mem _ hj)) (by simpa using h)
      exact key ord i hord hx
    have hp : ((ord.map fun (j : Nat) => rawInt j).toArray)[((i : Int)).toNat]? = some (rawInt j) := by
      rw [Int.toNat_natCast, List.getElem?_toArray, List.getElem?_map, hj]; rfl
    rw [hp]
    show wpAny _ _ (setNextDrawn S ((j : Int)).toNat ((ep : Int)).toNat >>= _) _ _ _
    rw [Int.toNat_natCast, Int.toNat_natCast]
    unfold setNextDrawn
    refine wpAny_bind (wpAny_bind (hS.state ?_))
    dsimp only
    refine wpAny_ite_split (fun hab => absurd hab (by simp)) fun _ => ?_
    obtain ⟨e0, he0, he1⟩ := Option.map_eq_some_iff.mp hjx
    rw [he0]
    dsimp only
    refine wpAny_pure ?_
    refine wpAny_bind (wpAny_setField_rec hI (by simp) fun h1 hI1 hs1 => ?_)
    replace hI1 : SI h1 I S (.ref T) ((i : Int) + 1) n ep := hI1
    have hTh : h1.get? T = some { cls := .type "tuple", data := .seq (ord.map fun (j : Nat) => rawInt j).toArray } := (hs1.2 T (hTI T rfl)).trans hTt
    refine wpAny_pure ⟨_, rfl, wpAny_pure ?_⟩
    rw [he1]
    exact hQ h1 _ hI1 hs1 (.drawn T ord (i + 1) hTh hord) fun T e => e
  | text i hb =>
    show wpAny _ _ (setNext S 0 ((i : Int)).toNat ((ep : Int)).toNat >>= _) _ _ _
    rw [Int.toNat_natCast, Int.toNat_natCast]
    refine wpAny_bind ?_
    unfold setNext
    refine wpAny_bind (hS.state ?_)
    dsimp only
    refine wpAny_bind (byText_ ?_)
    rw [hb]
    simp only [if_true]
    refine wpAny_ite_split (fun hab => absurd hab (by simp)) fun _ => ?_
    refine wpAny_bind ?_
    unfold setWalk
    refine wpAny_bind (hS.state ?_)
    dsimp only
    refine wpAny_bind (byText_ ?_)
    rw [hb]
    simp only [if_true]
    refine wpAny_bind (wpAny_askSetting (wpAny_pure ?_))
    obtain ⟨e0, he0, he1⟩ : ∃ e0, (pickOrder (w.params.setOrder S ep) ea)[i]? = some e0 ∧ e0.2 = x := by
      rw [List.getElem?_map, Array.getElem?_toList] at hx
      exact Option.map_eq_some_iff.mp hx
    refine wpAny_pure ?_
    show wpAny _ _ (match ((pickOrder (w.params.setOrder S ep) ea)[i]?).map (fun e => (e.2, 0)) with | some (x, next) => _ | none => _) _ _ _
    rw [he0]
    show wpAny _ _ (setField (.ref I) 0 (rawInt ((0 : Nat) : Int)) >>= _) _ _ _
    refine wpAny_bind (wpAny_setField_rec hI (by simp) fun h1 hI1 hs1 => ?_)
    replace hI1 : SI h1 I S (rawInt 0) i n ep := hI1
    refine wpAny_bind (wpAny_setField_rec (s := { s with heap := h1 }) hI1 (by simp) fun h2 hI2 hs2 => ?_)
    replace hI2 : SI h2 I S (rawInt 0) ((i : Int) + 1) n ep := hI2
    refine wpAny_pure ⟨_, rfl, wpAny_pure ?_⟩
    rw [he1]
    exact hQ h2 _ hI2 (hs1.trans hs2) (.text (i + 1) hb) (fun T e => by cases e)
  | none hb h0 => simp at hx
  | one0 x0 hb h0 hl =>
    have ex : x0.2 = x := by simpa using hx
    subst h0
    obtain ⟨j, hpl⟩ : ∃ j, t.place = #[j] := by
      have := hS.ft
      simp only [SetTable.fits, Bool.and_eq_true, beq_iff_eq] at this
      have h1 : t.place.size = 1 := this.1
      obtain ⟨l, hl⟩ : ∃ l, l = t.place.toList := ⟨_, rfl⟩
      match l, hl with
      | [], hl => rw [← Array.length_toList, ← hl] at h1; cases h1
      | [a], hl => exact ⟨a, Array.toList_inj.mp hl.symm⟩
      | a :: b :: r, hl => rw [← Array.length_toList, ← hl] at h1; simp at h1
    show wpAny _ _ (setNext S 0 0 ((ep : Int)).toNat >>= _) _ _ _
    refine wpAny_bind ?_
    unfold setNext
    refine wpAny_bind (hS.state ?_)
    dsimp only
    refine wpAny_bind (byText_ ?_)
    rw [hb]
    simp only [Bool.false_eq_true, if_false]
    refine wpAny_ite_split (fun hab => absurd (show (!t.plain && decide (1 > 1)) = true from hab) (by simp)) fun _ => ?_
    refine wpAny_bind (show wpAny _ _ (if (!t.led && !(#[x0] : Array (Int × Value)).isEmpty) = true then unsupported "set:maker-not-led" else pure PUnit.unit) _ _ _ from ?_)
    refine wpAny_ite_split (fun hab => absurd hab (by rw [hl]; simp)) fun _ => wpAny_pure ?_
    refine wpAny_pure ?_
    rw [hpl, below_one, if_neg (by omega)]
    show wpAny _ _ (setField (.ref I) 0 (rawInt ((j + 1 : Nat) : Int)) >>= _) _ _ _
    refine wpAny_bind (wpAny_setField_rec hI (by simp) fun h1 hI1 hs1 => ?_)
    replace hI1 : SI h1 I S (rawInt ((j + 1 : Nat) : Int)) ((0 : Nat) : Int) n ep := hI1
    refine wpAny_bind (wpAny_setField_rec (s := { s with heap := h1 }) hI1 (by simp) fun h2 hI2 hs2 => ?_)
    replace hI2 : SI h2 I S (rawInt ((j + 1 : Nat) : Int)) (((0 : Nat) : Int) + 1) n ep := hI2
    refine wpAny_pure ⟨_, rfl, wpAny_pure ?_⟩
    rw [ex]
    exact hQ h2 _ hI2 (hs1.trans hs2) (.one1 x0 j hb rfl hl hpl) (fun T e => by cases e)
  | one1 x0 j hb h0 hl hp => simp at hx
theorem si_end {I S : Addr} {first : Value} {i n ep : Nat} {ea : Array (Int × Value)} {t : SetTable} {ws : List Value} {Q : Option Value → Shared → Prop} (hh : A.handled = none)
    (hI : SI s.heap I S first i n ep) (hS : SO s.heap S ea ep t) (hn : ea.size = n) (hw : How w s.heap S ea ep t first i ws) (hx : ws[i]? = none)
    (hQ : ∀ h', (∀ b o, b ≠ I → s.heap.get? b = some o → h'.get? b = some o) → Q none { s with heap := h' }) :
    wpAny (model prog w) A (pyNext (.ref I)) Q E s := by
  have hT : s.TypeIs (.ref I) "set_iterator" := ⟨_, hI, rfl⟩
  unfold pyNext
  refine wpAny_bind (wpAny_attempt (wpAny_callSpecial?_slot (name := Str.ofString "__next__") hT slot_si_next (wpAny_call_entry slot_si_next hT entry_si_next ?_ (args_si_next _))))
  unfold Builtin.«set_iterator.__next__»
  refine wpAny_bind (wpAny_of_eq (a := (Value.ref I, [])) rfl ?_)
  dsimp only
  refine wpAny_bind (wpAny_fieldsOf hI rfl ?_)
  dsimp only
  unfold setEntries
  refine wpAny_bind (wpAny_bind (hS.state (wpAny_pure ?_)))
  dsimp only
  refine wpAny_ite_split (fun hab => absurd hab (by rw [hn]; simp)) fun _ => ?_
  have fin : ∀ (first' : Value) (h0 : Heap), SI h0 I S first' i n ep → (∀ b o, b ≠ I → s.heap.get? b = some o → h0.get? b = some o) →
      wpAny (model prog w) A.in1 (setField (.ref I) 2 .none >>= fun _ => newExc (.type "StopIteration") [] >>= fun e => (raiseNew e : Sem Fin))
        (fun fin s' => ∃ v, fin = Fin.done (.ret v) ∧ wpAny (model prog w) A (pure (some v)) Q E s') (fun e s' => wpAny (model prog w) A (do
          if (← isInstance e (.type "StopIteration")) = true then pure Option.none else throw e) Q E s') { s with heap := h0 } := by
    intro first' h0 hI0 hk
    refine wpAny_bind (wpAny_setField_rec (s := { s with heap := h0 }) hI0 (by simp) fun h1 hI1 hs1 => ?_)
    refine stop_now (s := { s with heap := h1 }) hh fun h' e hk' hex => ?_
    obtain ⟨o, ho, hc⟩ := hex
    refine wpAny_bind (wpAny_isInstance (T := "StopIteration") (b := true) ⟨o, ho, hc⟩ isSubtype_stop ?_)
    exact wpAny_pure (hQ _ fun b o hb e' => hk' b o (hs1.extBut b o hb (hk b o hb e')))
  cases hw with
  | drawn T ord i hTt hord =>
    dsimp only
    refine wpAny_bind (wpAny_seqItems hTt rfl ?_)
    dsimp only
    have hlen : ∀ l : List Nat, (∀ j ∈ l, j < ea.size) → (l.filterMap (vAt ea)).length = l.length := by
      intro l
      induction l with
      | nil => intro _; rfl
      | cons a l ih =>
        intro hb
        have ha := hb a (List.mem_cons_self ..)
        rw [List.filterMap_cons_some (vAt_lt ha), List.length_cons, ih fun j hj => hb j (List.mem_cons_of_mem _ hj), List.length_cons]
    have hp : ((ord.map fun (j : Nat) => rawInt j).toArray)[((i : Int)).toNat]? = Option.none := by
      rw [Int.toNat_natCast, List.getElem?_toArray, List.getElem?_map]
      have h1 := List.getElem?_eq_none_iff.mp hx
      rw [hlen ord hord] at h1
      rw [List.getElem?_eq_none_iff.mpr h1]; rfl
    rw [hp]
    refine wpAny_bind (wpAny_setField_rec hI (by simp) fun h1 hI1 hs1 => ?_)
    exact fin _ h1 hI1 fun b o hb e' => hs1.extBut b o hb e'
  | text i hb =>
    show wpAny _ _ (setNext S 0 ((i : Int)).toNat ((ep : Int)).toNat >>= _) _ _ _
    rw [Int.toNat_natCast, Int.toNat_natCast]
    refine wpAny_bind ?_
    unfold setNext
    refine wpAny_bind (hS.state ?_)
    dsimp only
    refine wpAny_bind (byText_ ?_)
    rw [hb]
    simp only [if_true]
    refine wpAny_ite_split (fun hab => absurd hab (by simp)) fun _ => ?_
    refine wpAny_bind ?_
    unfold setWalk
    refine wpAny_bind (hS.state ?_)
    dsimp only
    refine wpAny_bind (byText_ ?_)
    rw [hb]
    simp only [if_true]
    refine wpAny_bind (wpAny_askSetting (wpAny_pure ?_))
    have he0 : (pickOrder (w.params.setOrder S ep) ea)[i]? = Option.none := by
      rw [List.getElem?_map, Array.getElem?_toList] at hx
      exact Option.map_eq_none_iff.mp hx
    refine wpAny_pure ?_
    show wpAny _ _ (match ((pickOrder (w.params.setOrder S ep) ea)[i]?).map (fun e => (e.2, 0)) with | some (x, next) => _ | Option.none => _) _ _ _
    rw [he0]
    exact fin _ s.heap hI fun b o hb e' => e'
  | none hb h0 =>
    show wpAny _ _ (setNext S 0 0 ((ep : Int)).toNat >>= _) _ _ _
    have e0 : ea = #[] := Array.eq_empty_of_size_eq_zero h0
    subst e0
    refine wpAny_bind ?_
    unfold setNext
    refine wpAny_bind (hS.state ?_)
    dsimp only
    refine wpAny_bind (byText_ ?_)
    rw [hb]
    simp only [Bool.false_eq_true, if_false]
    refine wpAny_ite_split (fun hab => absurd (show (!t.plain && decide (0 > 1)) = true from hab) (by simp)) fun _ => ?_
    refine wpAny_bind (show wpAny _ _ (if (!t.led && !(#[] : Array (Int × Value)).isEmpty) = true then unsupported "set:maker-not-led" else pure PUnit.unit) _ _ _ from ?_)
    refine wpAny_ite_split (fun hab => absurd hab (by simp)) fun _ => wpAny_pure ?_
    refine wpAny_pure ?_
    have hp : t.place = #[] := by
      have := hS.ft
      simp only [SetTable.fits, Bool.and_eq_true, beq_iff_eq] at this
      exact Array.eq_empty_of_size_eq_zero this.1
    rw [hp]
    exact fin _ s.heap hI fun b o hb e' => e'
  | one0 x0 hb h0 hl => simp at hx
  | one1 x0 j hb h0 hl hp =>
    subst h0
    show wpAny _ _ (setNext S (((j : Int) + 1)).toNat 1 ((ep : Int)).toNat >>= _) _ _ _
    have ej : ((j : Int) + 1).toNat = j + 1 := by omega
    rw [ej]
    refine wpAny_bind ?_
    unfold setNext
    refine wpAny_bind (hS.state ?_)
    dsimp only
    refine wpAny_bind (byText_ ?_)
    rw [hb]
    simp only [Bool.false_eq_true, if_false]
    refine wpAny_ite_split (fun hab => absurd (show (!t.plain && decide (1 > 1)) = true from hab) (by simp)) fun _ => ?_
    refine wpAny_bind (show wpAny _ _ (if (!t.led && !(#[x0] : Array (Int × Value)).isEmpty) = true then unsupported "set:maker-not-led" else pure PUnit.unit) _ _ _ from ?_)
    refine wpAny_ite_split (fun hab => absurd hab (by rw [hl]; simp)) fun _ => wpAny_pure ?_
    refine wpAny_pure ?_
    rw [hp, below_one, if_pos (by omega)]
    exact fin _ s.heap hI fun b o hb e' => e'
end
end L2
set_option Elab.async false
set_option linter.all false
set_option maxRecDepth 100000
set_option maxHeartbeats 3200000
namespace L2
open PySem PySem.Spec PyProof.Rows
section
variable {prog : Program} {w : World} {A : Around} {E : Value → Shared → Prop} {s : Shared}
/-- the iterator I walks the set at S and tells ws -/
def SSt (w : World) (I S : Addr) (fp : List Addr) (ea : Array (Int × Value)) (ep : Nat) (t : SetTable) (ws : List Value) (i : Nat) (h : Heap) : Prop :=
  ∃ first, SI h I S first i ea.size ep ∧ SO h S ea ep t ∧ How w h S ea ep t first i ws ∧ ∀ T, first = .ref T → T ≠ I ∧ T ∈ fp
theorem How.keep {h h' : Heap} {S : Addr} {ea : Array (Int × Value)} {ep : Nat} {t : SetTable} {first : Value} {i : Nat} {ws : List Value} (x : How w h S ea ep t first i ws) (k : ∀ T o, first = .ref T → h.get? T = some o → h'.get? T = some o) : How w h' S ea ep t first i ws := by
  cases x with
  | drawn T ord i a b => exact .drawn T ord i (k T _ rfl a) b
  | text i a => exact .text i a
  | none a b => exact .none a b
  | one0 x a b c => exact .one0 x a b c
  | one1 x j a b c d => exact .one1 x j a b c d
theorem si_walks (hh : A.handled = none) {I S : Addr} {fp : List Addr} {ea : Array (Int × Value)} {ep : Nat} {t : SetTable} {ws : List Value} (hne : S ≠ I) (hIf : I ∈ fp) (hSf : S ∈ fp) :
    Walks prog w A I fp [I] ws.length (fun i v => ws[i]? = some v) (SSt w I S fp ea ep t ws) where
  sub := fun b hb => by
    have : b = I := by simpa using hb
    rw [this]; exact hIf
  frame := fun i h h' x hk => by
    obtain ⟨first, a, b, c, d⟩ := x
    exact ⟨first, hk I hIf _ a, b.at fun o q => hk S hSf o q, c.keep fun T o e q => hk T (d T e).2 o q, d⟩
  item := fun i s Q E hi x hQ => by
    obtain ⟨first, a, b, c, d⟩ := x
    have hx : ws[i]? = some ws[i] := List.getElem?_eq_getElem hi
    refine si_next a b rfl c hne (fun T e => (d T e).1) hx fun h' first' a' sb c' d' => ?_
    refine hQ _ h' s.toks hx ⟨first', a', b.at fun o q => (sb.2 S hne).trans q, c', fun T e => ?_⟩ fun b' o hb' q => (sb.2 b' (by simpa using hb')).trans q
    exact d T (d' T e)
  done := fun s Q E x hQ => by
    obtain ⟨first, a, b, c, d⟩ := x
    exact si_end hh a b rfl c (List.getElem?_eq_none (Nat.le_refl _)) fun h' hk => hQ h' s.toks fun b o hb q => hk b o (by simpa using hb) q
  self := fun i s Q E x h => by
    obtain ⟨first, a, b, c, d⟩ := x
    have hT : s.TypeIs (.ref I) "set_iterator" := ⟨_, a, rfl⟩
    refine wpAny_pyIter_slot hT slot_si_iter (wpAny_call_entry slot_si_iter hT entry_si_iter ?_ (args_si_iter _))
    show wpAny _ _ (ret (.ref I)) _ _ s
    exact wpAny_pure ⟨_, rfl, _, _, hT, slot_si_next.lookup, h⟩
theorem set_iter {S : Addr} {es : List (Int × Value)} {Q : Value → Shared → Prop} (hS : SR prog w s.heap S es (!w.params.followText "set-order"))
    (h : ∀ (I : Addr) (fp : List Addr) (h' : Heap) (d : Drawn) (ea : Array (Int × Value)) (ep : Nat) (t : SetTable) (ws : List Value), s.heap.objs.size ≤ I → (∀ b o, s.heap.get? b = some o → h'.get? b = some o) → ws.Perm (es.map (·.2)) → SSt w I S fp ea ep t ws 0 h' →
      I ∈ fp → S ∈ fp → (∀ b ∈ fp, b = S ∨ s.heap.objs.size ≤ b) → I < h'.objs.size → Q (.ref I) { s with heap := h', drawn := d }) :
    wpAny (model prog w) A (pyIter (.ref S)) Q E s := by
  obtain ⟨⟨o, ea, ep, t, ho, hex, hd, he, hf, hl, hpl⟩, hel, hb⟩ := hS
  subst he
  have hT : s.TypeIs (.ref S) "set" := ⟨o, ho, hex.1⟩
  have hSO : SO s.heap S ea ep t := ⟨⟨o, ho, hd⟩, hf⟩
  have hSlt : S < s.heap.objs.size := Heap.lt_size ho
  refine wpAny_pyIter_slot hT PySem.F.slot_set_iter (wpAny_call_entry PySem.F.slot_set_iter hT entry_set_it ?_ (PySem.F.args_set_iter_1 _))
  unfold Builtin.«frozenset.__iter__»
  refine wpAny_bind (wpAny_of_eq (a := S) rfl ?_)
  unfold Builtin.Frozenset.sizeOf setEntries
  refine wpAny_bind (wpAny_bind (wpAny_bind (hSO.state (wpAny_pure (wpAny_pure ?_)))))
  unfold setDrawn
  refine wpAny_bind (wpAny_bind (hSO.state ?_))
  dsimp only
  refine wpAny_bind (byText_ (wpAny_pure ?_))
  -- behind the first field
  have fin : ∀ (first : Value) (h0 : Heap) (d : Drawn) (ws : List Value) (fp : List Addr), (∀ b o, s.heap.get? b = some o → h0.get? b = some o) → s.heap.objs.size ≤ h0.objs.size → How w h0 S ea ep t first 0 ws → ws.Perm (ea.toList.map (·.2)) →
      (∀ T, first = .ref T → T < h0.objs.size ∧ T ∈ fp) → (∀ b ∈ fp, s.heap.objs.size ≤ b) →
      wpAny (model prog w) A.in1 (setEpoch S >>= fun e => newFields "set_iterator" [first, rawInt 0, .ref S, rawInt ea.size, rawInt e] >>= fun v => ret v)
        (fun fin s' => ∃ v, fin = Fin.done (.ret v) ∧ ∃ T' r, s'.TypeIs v T' ∧ typeLookup (Value.type T') (Str.ofString "__next__") = pure (some r) ∧ Q v s') E { s with heap := h0, drawn := d } := by
    intro first h0 d ws fp hk hz hw hp hTt hfp
    unfold setEpoch
    refine wpAny_bind (wpAny_bind (SO.state (s := { s with heap := h0, drawn := d }) (hSO.at fun o q => hk S o q) (wpAny_pure ?_)))
    dsimp only
    refine wpAny_bind (wpAny_newObj_type (wpAny_pure ⟨_, rfl, "set_iterator", _, ⟨_, Heap.get?_push_size _ rfl, rfl⟩, slot_si_next.lookup, ?_⟩))
    refine h h0.objs.size (h0.objs.size :: S :: fp) _ d ea ep t ws hz (fun b o q => Heap.get?_push_of_some _ (hk b o q)) hp
      ⟨first, Heap.get?_push_size _ rfl, (hSO.at fun o q => hk S o q).at fun o q => Heap.get?_push_of_some _ q, hw.keep fun T o e q => Heap.get?_push_of_some _ q, fun T e => ⟨Nat.ne_of_lt (hTt T e).1, by simp [(hTt T e).2]⟩⟩ (by simp) (by simp) (fun b hb => ?_) (by rw [Heap.size_push]; exact Nat.lt_succ_self _)
    rcases List.mem_cons.mp hb with e | hb
    · exact .inr (by rw [e]; exact hz)
    · rcases List.mem_cons.mp hb with e | hb
      · exact .inl e
      · exact .inr (hfp b hb)
  cases hbt : w.params.followText "set-order" with
  | true =>
    simp only [Bool.not_true, Bool.false_and, Bool.false_eq_true, if_false]
    refine wpAny_bind (wpAny_pure ?_)
    have hp := (pick_perm (w.params.setOrder S ep) ea).map (·.2)
    exact fin (rawInt 0) s.heap s.drawn _ [] (fun b o q => q) (Nat.le_refl _) (.text 0 hbt) hp (fun T e => by cases e) (fun b hb => by simp at hb)
  | false =>
    by_cases h2 : ea.size > 1
    · have hpf : t.plain = false := by
        rcases hpl with q | q
        · omega
        · exact q
      refine wpAny_ite_split (fun _ => ?_) fun hab => absurd (show (!false && (!t.plain && decide (ea.size > 1))) = true by rw [hpf, decide_eq_true h2]; rfl) hab
      refine wpAny_bind (draw_perm ea.size (List.range ea.size) _ _ List.length_range.symm fun ord d hp => ?_)
      refine wpAny_bind (wpAny_newTuple ?_ (hsz := by rw [List.length_map, hp.length_eq, List.length_range, ← Array.length_toList]; exact small80 (by omega)))
      have hsz : (s.heap.push { cls := .type "tuple", data := .seq (ord.map fun (j : Nat) => rawInt j).toArray }).objs.size = s.heap.objs.size + 1 := Heap.size_push ..
      have hmem : ∀ j ∈ ord, j < ea.size := fun j hj => List.mem_range.mp (hp.mem_iff.mp hj)
      refine fin (.ref s.heap.objs.size) (s.heap.push { cls := .type "tuple", data := .seq (ord.map fun (j : Nat) => rawInt j).toArray }) d (ord.filterMap (vAt ea)) [s.heap.objs.size] (fun b o q => Heap.get?_push_of_some _ q) (by rw [hsz]; exact Nat.le_succ _)
        (.drawn _ ord 0 (Heap.get?_push_size _ rfl) hmem) ?_ (fun T e => ?_) (fun b hb => ?_)
      · refine (hp.filterMap _).trans ?_
        have key : ∀ l : List (Int × Value), (List.range l.length).filterMap (fun j => (l[j]?).map Prod.snd) = l.map (·.2) := by
          intro l
          refine List.ext_getElem? fun i => ?_
          have e1 : ∀ j ∈ List.range l.length, (fun j => (l[j]?).map Prod.snd) j = some ((l.map (·.2)).getD j .none) := by
            intro j hj
            have := List.mem_range.mp hj
            show (l[j]?).map Prod.snd = _
            rw [List.getD_eq_getElem?_getD, List.getElem?_map, List.getElem?_eq_getElem this]; rfl
          rw [fm_congr e1, List.filterMap_eq_map']
          rw [List.getElem?_map, List.getElem?_map]
          by_cases hi : i < l.length
          · rw [List.getElem?_range hi]
            simp [List.getElem?_eq_getElem hi]
          · rw [List.getElem?_eq_none (by simpa using hi), List.getElem?_eq_none (by omega)]; rfl
        have k2 := key ea.toList
        rw [Array.length_toList] at k2
        rw [← k2]
        refine List.Perm.of_eq (fm_congr fun j _ => ?_)
        show (ea[j]?).map Prod.snd = (ea.toList[j]?).map Prod.snd
        rw [Array.getElem?_toList]
      · cases e
        exact ⟨by rw [hsz]; exact Nat.lt_succ_self _, by simp⟩
      · rw [List.mem_singleton.mp hb]; exact Nat.le_refl _
    · refine wpAny_ite_split (fun hab => absurd (show (!false && (!t.plain && decide (ea.size > 1))) = true from hab) (by rw [decide_eq_false h2]; simp)) fun _ => ?_
      refine wpAny_bind (wpAny_pure ?_)
      have hlt : t.led = true := by rw [hl, hbt]; rfl
      obtain ⟨l, hl2⟩ : ∃ l, l = ea.toList := ⟨_, rfl⟩
      match l, hl2 with
      | [], hl2 =>
        have e0 : ea.size = 0 := by rw [← Array.length_toList, ← hl2]; rfl
        refine fin (rawInt 0) s.heap s.drawn [] [] (fun b o q => q) (Nat.le_refl _) (.none hbt e0) (by rw [← hl2]; exact .rfl) (fun T e => by cases e) (fun b hb => by simp at hb)
      | [x], hl2 =>
        have e0 : ea = #[x] := Array.toList_inj.mp hl2.symm
        refine fin (rawInt 0) s.heap s.drawn [x.2] [] (fun b o q => q) (Nat.le_refl _) (.one0 x hbt e0 hlt) (by rw [← hl2]; exact .rfl) (fun T e => by cases e) (fun b hb => by simp at hb)
      | x :: y :: r, hl2 =>
        have : ea.size > 1 := by rw [← Array.length_toList, ← hl2]; simp
        exact absurd this h2
theorem set_hint {S : Addr} (hT : s.TypeIs (.ref S) "set") {Q : Bool → Shared → Prop} (h : Q false s) : wpAny (model prog w) A (Builtin.List.listLengthHint (.ref S)) Q E s := by
  unfold Builtin.List.listLengthHint
  refine wpAny_bind (wpAny_specialOf hT set_len ?_)
  generalize hid : ("set.__len__" : String) = id0
  wp_delta
  rw [show splitId id0 = some ("set", "__len__") from by subst hid; decide +kernel]
  subst hid
  refine wpAny_bind (wpAny_isInstance (T := "set") (b := true) hT (by rw [isSubtype_type]; kernel_rfl) ?_)
  refine wpAny_ite_split (fun hab => absurd hab (by decide)) (fun _ => ?_)
  refine wpAny_ite_split (fun _ => ?_) (fun hab => absurd (by decide +kernel) hab)
  refine wpAny_bind (wpAny_typeOf hT ?_)
  exact wpAny_pure h
theorem set_extend {S D : Addr} {es : List (Int × Value)} {R : Result → Shared → Prop} (hh : A.handled = none) (hS : SR prog w s.heap S es (!w.params.followText "set-order")) (hSD : D ≠ S) (res : Value) (c₀ : Nat)
    (hD : s.heap.get? D = some { cls := .type "list", data := .seq #[] c₀ })
    (hR : ∀ h' d tk acc c, (∀ b o, b ≠ D → s.heap.get? b = some o → h'.get? b = some o) → h'.get? D = some { cls := .type "list", dict := none, data := .seq acc c, slots := #[] } → acc.toList.Perm (es.map (·.2)) → R (.ok (.ret res)) { s with heap := h', drawn := d, toks := tk }) :
    wpAny (model prog w) A.in1 (Builtin.List.listExtendWith (.ref D) (.ref S) res)
      (fun fin s' => match fin with | .done f => R (.ok f) s' | .again c' => c'.quiet = true ∧ codeAny (model prog w) A c' R s') (fun e s' => R (.error e) s') s := by
  have hDlt : D < s.heap.objs.size := Heap.lt_size hD
  have hT : s.TypeIs (.ref S) "set" := by
    obtain ⟨o, ea, ep, t, ho, hex, _⟩ := hS.ex
    exact ⟨o, ho, hex.1⟩
  unfold Builtin.List.listExtendWith
  refine wpAny_bind (wpAny_typeOf (T := "set") hT ?_)
  have h1 : Builtin.List.listSameRef (.ref D) (.ref S) = false := by simp [Builtin.List.listSameRef, hSD]
  have h2 : (Value.type "set" == Value.type "list") = false := by decide
  have h3 : (Value.type "set" == Value.type "tuple") = false := by decide
  simp only [h1, h2, h3, Bool.or_false, Bool.false_eq_true, if_false]
  refine wpAny_bind (set_iter hS fun I fp h' d ea ep t ws hI hk hp hst hIf hSf hfp hIlt => ?_)
  have hTI : Shared.TypeIs { s with heap := h', drawn := d } (.ref S) "set" := by
    obtain ⟨o, ho, hc⟩ := hT
    exact ⟨o, hk S o ho, hc⟩
  have hn : ws.length ≤ sizeLine := by
    rw [hp.length_eq, List.length_map]
    exact small80 (Nat.le_of_lt (Nat.lt_trans hS.bd (by decide)))
  have hDf : D ∉ fp := fun hm => by
    rcases hfp D hm with e | e
    · exact hSD e
    · exact absurd hDlt (Nat.not_lt_of_le e)
  have hSI : S ≠ I := by
    obtain ⟨o, ea, ep, t, ho, _⟩ := hS.ex
    exact Nat.ne_of_lt (Nat.lt_of_lt_of_le (Heap.lt_size ho) hI)
  have key : ∀ (h1 : Heap) (c₁ tk : Nat), (∀ b o, b ≠ D → h'.get? b = some o → h1.get? b = some o) → h1.get? D = some { cls := .type "list", data := .seq #[] c₁ } →
      codeAny (model prog w) A (.builtin "list.extend.loop" ⟨[.ref D, .ref I, res], []⟩) R { s with heap := h1, drawn := d, toks := tk } := by
    intro h1 c₁ tk hk1 hD1
    have W := si_walks (prog := prog) (w := w) (A := A.in1) (ea := ea) (ep := ep) (t := t) (ws := ws) hh hSI hIf hSf
    refine codeAny_extend_loopS W.toS hn D hDf res ws.length 0 _ #[] c₁ rfl (Nat.zero_le _) (W.frame 0 h' h1 hst fun b hb o q => hk1 b o (fun e => hDf (e ▸ hb)) q) hD1 (ItemsOf.nil _) fun s' acc' c' hm hS' hacc => ?_
    rw [Moved.eq_with hm]
    refine hR s'.heap d s'.toks acc' c' (fun b o hb e => hm.heap b o (fun hmem => ?_) (hk1 b o hb (hk b o e))) hS' ?_
    · rcases List.mem_cons.mp hmem with e' | hmem
      · exact hb e'
      · rw [List.mem_singleton.mp hmem] at e
        exact absurd (Heap.lt_size e) (Nat.not_lt_of_le hI)
    · refine List.Perm.trans (List.Perm.of_eq ?_) hp
      refine List.ext_getElem? fun i => ?_
      rw [Array.getElem?_toList]
      by_cases hi : i < ws.length
      · have hia : i < acc'.size := by rw [hacc.1]; exact hi
        rw [Array.getElem?_eq_getElem hia]
        exact (hacc.2 i _ (Array.getElem?_eq_getElem hia)).symm
      · rw [List.getElem?_eq_none (by omega), Array.getElem?_eq_none (by rw [hacc.1]; omega)]
  have hD₁ := hk D _ hD
  refine wpAny_bind (wpAny_holding (set_hint hTI ?_))
  refine wpAny_ite_split (fun _ => ?_) (fun _ => wpAny_pure ⟨plainId_quiet PySem.F.plain_extend_loop _, key _ c₀ _ (fun b o _ e => e) hD₁⟩)
  refine wpAny_bind (wpAny_rule ?_)
  refine wpAny_bind ?_
  show wpAny _ _ (updateSeq D (·.push .none) >>= fun _ => updateSeq D (·.pop)) _ _ _
  refine wpAny_bind (wpAny_updateSeq hD₁ rfl ?_)
  have hD₂ := Heap.get?_update_self (Obj.mapSeq (·.push Value.none)) hD₁ rfl
  refine wpAny_updateSeq (hz := by seq_fits) hD₂ rfl ?_
  have hD₃ := Heap.get?_update_self (Obj.mapSeq (·.pop)) hD₂ rfl
  refine wpAny_pure ⟨plainId_quiet PySem.F.plain_extend_loop _, key _ _ _ (fun b o hb e => ?_) hD₃⟩
  exact (Heap.get?_update_other _ _ (Ne.symm hb)).trans ((Heap.get?_update_other _ _ (Ne.symm hb)).trans e)
end
end L2
set_option Elab.async false
set_option linter.all false
set_option maxRecDepth 100000
set_option maxHeartbeats 3200000
namespace L2
open PySem PySem.Spec PyProof.Rows
section
variable {prog : Program} {w : World} {A : Around} {E : Value → Shared → Prop} {s : Shared}
theorem set_collect {S : Addr} {es : List (Int × Value)} {R : List Value → Shared → Prop} (hh : A.handled = none) (hS : SR prog w s.heap S es (!w.params.followText "set-order"))
    (h : ∀ (h' : Heap) (d : Drawn) (tk : Nat) (acc : Array Value), s.heap.objs.size < h'.objs.size → (∀ b o, s.heap.get? b = some o → h'.get? b = some o) → acc.toList.Perm (es.map (·.2)) → R acc.toList { s with heap := h', drawn := d, toks := tk }) :
    wpAny (model prog w) A (collect (.ref S)) R E s := by
  have hlt : S < s.heap.objs.size := by
    obtain ⟨o, ea, ep, t, ho, _⟩ := hS.ex
    exact Heap.lt_size ho
  unfold collect
  refine wpAny_bind (wpAny_runValue (codeAny_builtin PyProof.Rows.entry_proto_collect' ?_))
  rw [Around.under_plainId PySem.F.plain_proto_collect _]
  show wpAny _ A.in1 (newList [] >>= fun l => again (.builtin "list.__iadd__" ⟨[l, .ref S], []⟩)) _ _ s
  refine wpAny_bind (wpAny_newObj_type ?_)
  refine wpAny_pure ⟨plainId_quiet PySem.F.plain_list_iadd _, codeAny_builtin PyProof.Rows.entry_list_iadd' ?_⟩
  rw [Around.under_plainId PySem.F.plain_list_iadd _]
  have hS₁ : (s.heap.push { cls := .type "list", data := .seq ([] : List Value).toArray }).get? s.heap.objs.size = some { cls := .type "list", data := .seq #[] } := Heap.get?_push_size _ rfl
  show wpAny _ A.in1 (Builtin.List.listExtendWith (.ref s.heap.objs.size) (.ref S) (.ref s.heap.objs.size)) _ _ _
  have key := set_extend (A := A) (s := { s with heap := s.heap.push { cls := .type "list", data := .seq ([] : List Value).toArray } }) (D := s.heap.objs.size)
    (R := fun (q : Result) (s' : Shared) => ∃ (h' : Heap) (d : Drawn) (tk : Nat) (acc' : Array Value) (c' : Nat), q = .ok (.ret (.ref s.heap.objs.size)) ∧ s' = { s with heap := h', drawn := d, toks := tk } ∧
      (∀ b o, s.heap.get? b = some o → h'.get? b = some o) ∧ h'.get? s.heap.objs.size = some { cls := .type "list", dict := none, data := .seq acc' c', slots := #[] } ∧ acc'.toList.Perm (es.map (·.2)))
    hh (hS.at fun o q => Heap.get?_push_of_some _ q) (Nat.ne_of_gt hlt) (.ref s.heap.objs.size) 0 hS₁
    (fun h' d tk acc' c' hk hS' hacc => ⟨h', d, tk, acc', c', rfl, rfl, fun b o e => hk b o (Nat.ne_of_lt (Heap.lt_size e)) (Heap.get?_push_of_some _ e), hS', hacc⟩)
  refine wpAny_mono key (fun fin s' x => ?_) fun e s' x => ?_
  · cases fin with
    | done f =>
      obtain ⟨h', d, tk, acc', c', e, rfl, hk, hS', hacc⟩ := x
      cases e
      show wpAny _ A (load s.heap.objs.size >>= _) _ _ _
      refine wpAny_bind (wpAny_load hS' ?_)
      exact wpAny_pure (h h' d tk acc' (Heap.lt_size hS') hk hacc)
    | again c₁ =>
      refine ⟨x.1, codeAny_mono x.2 fun q s₂ y => ?_⟩
      obtain ⟨h', d, tk, acc', c', rfl, rfl, hk, hS', hacc⟩ := y
      show wpAny _ A (load s.heap.objs.size >>= _) _ _ _
      refine wpAny_bind (wpAny_load hS' ?_)
      exact wpAny_pure (h h' d tk acc' (Heap.lt_size hS') hk hacc)
  · obtain ⟨_, _, _, _, _, e', _⟩ := x
    cases e'
theorem strs_of_codes : ∀ {vs : List Value}, (∀ v ∈ vs, ∃ c t, v = .str (sg c) t) → StrsAre vs ((vs.map codeV).map sg)
  | [], _ => .nil
  | v :: vs, h => by
    obtain ⟨c, t, e⟩ := h v (List.mem_cons_self ..)
    subst e
    exact .cons _ t (strs_of_codes fun u hu => h u (List.mem_cons_of_mem _ hu))
theorem lt_sg (c d : Nat) : ltCps (sg d).cps.toList (sg c).cps.toList = decide (d < c) := by
  rw [ltCps_eq]
  show decide ([d] < [c]) = _
  rw [Bool.eq_iff_iff]
  simp only [decide_eq_true_eq]
  constructor
  · intro h
    rcases List.lt_iff_exists.mp h with h | h
    · have := h.2
      simp at this
    · obtain ⟨i, h1, h2, h3, h4⟩ := h
      have hi : i = 0 := by simpa using h1
      subst hi
      simpa using h4
  · intro h
    exact List.Lex.rel h
theorem rising_codes : ∀ (c : Nat) (l : List Nat), risingS (sg c) (l.map sg) = true → (c :: l).Pairwise (· ≤ ·)
  | c, [], _ => List.pairwise_singleton ..
  | c, d :: l, h => by
    have h' : (!ltCps (sg d).cps.toList (sg c).cps.toList && risingS (sg d) (l.map sg)) = true := h
    rw [lt_sg, Bool.and_eq_true] at h'
    have hcd : c ≤ d := by
      have := h'.1
      simp at this
      exact this
    have ih := rising_codes d l h'.2
    refine List.pairwise_cons.mpr ⟨fun e he => ?_, ih⟩
    rcases List.mem_cons.mp he with e1 | he
    · rw [e1]; exact hcd
    · exact Nat.le_trans hcd ((List.pairwise_cons.mp ih).1 e he)
theorem sorted_codes (l : List Nat) (h : sortedS (l.map sg) = true) : l.Pairwise (· ≤ ·) := by
  cases l with
  | nil => exact .nil
  | cons c l => exact rising_codes c l h
theorem sg_injS {c d : Nat} (h : sg c = sg d) : c = d := congrArg (fun x : Str => x.cps.getD 0 0) h
theorem perm_sg {ss : List Str} {ds : List Nat} (h : ss.Perm (ds.map sg)) : ∃ ds' : List Nat, ss = ds'.map sg ∧ ds'.Perm ds := by
  refine ⟨ss.map (fun x => x.cps.getD 0 0), ?_, ?_⟩
  · rw [List.map_map]
    have : ∀ x ∈ ss, (sg ∘ fun x : Str => x.cps.getD 0 0) x = x := by
      intro x hx
      obtain ⟨c, _, e⟩ := List.mem_map.mp (h.mem_iff.mp hx)
      subst e; rfl
    rw [List.map_congr_left this]; simp
  · have := h.map (fun x : Str => x.cps.getD 0 0)
    rw [List.map_map] at this
    have e : (ds.map ((fun x : Str => x.cps.getD 0 0) ∘ sg)) = ds := by
      have : ∀ d ∈ ds, ((fun x : Str => x.cps.getD 0 0) ∘ sg) d = d := fun d _ => rfl
      rw [List.map_congr_left this]; simp
    rw [e] at this
    exact this
theorem sorted_set {S : Addr} {cs : List Nat} {Q : Value → Shared → Prop} (hh : A.handled = none) (hS : SC prog w s.heap S (!w.params.followText "set-order") cs) (h64 : ∀ ds : List Nat, ds.Nodup → (∀ d ∈ ds, d ∈ cs) → ds.length < 64)
    (h : ∀ (D : Addr) (h' : Heap) (d : Drawn) (tk n : Nat) (vs : List Value) (ds : List Nat), s.heap.objs.size ≤ D → (∀ b o, s.heap.get? b = some o → h'.get? b = some o) → h'.get? D = some (seqObj "list" vs.toArray n) → StrsAre vs (ds.map sg) → ds.Pairwise (· < ·) → (∀ c, c ∈ ds ↔ c ∈ cs) →
      Q (.ref D) { s with heap := h', drawn := d, toks := tk }) :
    wpAny (model prog w) A (call (.builtin "sorted") [.ref S]) Q E s := by
  obtain ⟨es, hR, hsh, hnd, hin⟩ := hS.ex
  refine Calls.call_function_entry kind_sorted plain_sorted entry_sorted (args_sorted1 _) ?_
  unfold Builtin.«sorted»
  refine wpAny_bind (m := checkCount "sorted" 1 1 _) (wpAny_pure ?_)
  refine wpAny_bind (set_collect (A := A.in1) hh hR fun h1 d tk acc hbig hk hp => ?_)
  have hcode : (acc.toList.map codeV).Perm (es.map (fun e => codeV e.2)) := by
    have := hp.map codeV
    rw [List.map_map] at this
    exact this
  have hall : ∀ v ∈ acc.toList, ∃ c t, v = .str (sg c) t := fun v hv => by
    obtain ⟨e, he, e1⟩ := List.mem_map.mp (hp.mem_iff.mp hv)
    obtain ⟨c, t, e2⟩ := hsh e he
    exact ⟨c, t, by rw [← e1]; exact e2⟩
  have hst := strs_of_codes hall
  have hl64 : acc.toList.length < 64 := by
    have := h64 (acc.toList.map codeV) (hcode.nodup_iff.mpr hnd) fun c hc => (hin c).mp (hcode.mem_iff.mp hc)
    rwa [List.length_map] at this
  refine wpAny_bind (wpAny_newList ?_ (by exact small80 (by omega)))
  have hoL : (h1.push (seqObj "list" acc.toList.toArray 0)).get? h1.objs.size = some (seqObj "list" acc.toList.toArray 0) := Heap.get?_push_size _ rfl
  refine wpAny_bind (wpAny_holding (wpAny_call_entry slot_list_sort (s := { s with heap := h1.push (seqObj "list" acc.toList.toArray 0), drawn := d, toks := tk }) ⟨_, hoL, rfl⟩ entry_list_sort (list_sort_treeK strKind_oneLt hoL hst.keysOf (fun v₁ v₂ rest e => keyKind_strs (by rw [← e]; exact hst)) hl64 fun st' a1 a2 => ⟨_, rfl, ?_⟩) (args_list_sort _)))
  obtain ⟨ss', b1, b2, b3⟩ := sorted_out_str hst a1 a2
  obtain ⟨ds, rfl, hds⟩ := perm_sg b2
  obtain ⟨e, he⟩ := sortedHeap_at (vs := acc.toList) (out := (arrOf st').map (·.2)) hoL
  refine wpAny_pure ⟨_, rfl, h h1.objs.size _ d tk e _ ds (Nat.le_of_lt hbig) (fun b o q => ?_) he b1 ?_ fun c => ?_⟩
  · have hb := Heap.lt_size (hk b o q)
    rw [sortedHeap_old (Nat.ne_of_lt hb) (by rw [size_push']; exact Nat.lt_succ_of_lt hb)]
    exact Heap.get?_push_of_some _ (hk b o q)
  · have h1 := sorted_codes ds b3
    have h2 : ds.Nodup := (hds.trans hcode).nodup_iff.mpr hnd
    exact (h1.and h2).imp fun ⟨a, b⟩ => Nat.lt_of_le_of_ne a b
  · rw [(hds.trans hcode).mem_iff]
    exact hin c
end
theorem Inv.drawn {X : Cx} {pins : List (Addr × Obj)} {σ : St} {H : Hp} {s : Shared} (I : Inv X pins σ H s) (d : Drawn) : Inv X pins σ H { s with drawn := d } :=
  ⟨I.ok, I.os, I.bare, I.base, I.loc, I.cell, I.free, I.freeC, I.pin, I.hok, I.len⟩
def tSortedSet (ta : TA) : TE := fun σ H Q => ta σ H fun vs H1 => ∃ z : Str, vs = [.str z] ∧ z.length < 3900 ∧ (∀ ds : List Nat, ds.Nodup → (∀ d ∈ ds, d ∈ z.cps.toList) → ds.length < 64) ∧
  ∀ (l : Addr) (ds : List Nat), H1 l = none → ds.Pairwise (· < ·) → (∀ c, c ∈ ds ↔ c ∈ z.cps.toList) → Q (.ref l) (upd H1 l (.lst ((ds.map sg).map V.str)))
end L2
set_option Elab.async false
set_option linter.all false
set_option maxRecDepth 100000
namespace L2
open PySem PySem.Spec PyProof.Rows
section
variable {X : Cx} {o e f : Expr} {to te tf : TE}
def tM2 (r : V → List V → Hp → VK → Prop) (to te tf : TE) : TE := fun σ H Q => to σ H fun x H1 => (∃ a, x = .str a) ∧ te σ H1 fun y H2 => tf σ H2 fun z H3 => r x [y, z] H3 Q
open Builtin Builtin.Str in
def rIndexS3 : V → List V → Hp → VK → Prop := fun x xs H Q => ∃ (z : Str) (c k : Nat) (i : Int), x = .str z ∧ xs = [.str (sg c), .int i] ∧ 0 ≤ i ∧ nxt z.cps.toList i.toNat (sg c) = some k ∧ Q (.int (k : Nat)) H
end
theorem nxt_idx (c : Nat) (cs : List Nat) (i : Nat) : nxt cs i (sg c) = (idx c (cs.drop i)).map (i + ·) := by
  unfold nxt
  generalize cs.drop i = l
  induction l generalizing i with
  | nil => rfl
  | cons x xs ih =>
    show (if sg x = sg c then some i else nxtL xs (i + 1) (sg c)) = (if x = c then some 0 else (idx c xs).map (· + 1)).map (i + ·)
    by_cases h : x = c
    · rw [if_pos (by rw [h]), if_pos h]; rfl
    · rw [if_neg (fun z => h (sg_inj' z)), if_neg h, ih (i + 1), Option.map_map]
      congr 1
      funext j
      show i + 1 + j = i + (j + 1)
      omega
theorem nxt_mem {c : Nat} {cs : List Nat} {i : Nat} (h : c ∈ cs.drop i) : ∃ k, nxt cs i (sg c) = some k ∧ i ≤ k ∧ k < cs.length := by
  have h1 : (idx c (cs.drop i)).isSome = true := by rw [idx_in', decide_eq_true h]
  obtain ⟨j, hj⟩ := Option.isSome_iff_exists.mp h1
  have hl := idx_lt hj
  rw [List.length_drop] at hl
  exact ⟨i + j, by rw [nxt_idx, hj]; rfl, by omega, by omega⟩
where idx_in' {c : Nat} : ∀ {xs : List Nat}, (idx c xs).isSome = decide (c ∈ xs)
  | [] => by simp [idx]
  | x :: xs => by
    show (if x = c then some 0 else (idx c xs).map (· + 1)).isSome = _
    by_cases h : x = c
    · rw [if_pos h, h]; simp
    · rw [if_neg h, Option.isSome_map, idx_in']
      have h' : ¬ c = x := fun e => h e.symm
      simp [h']
def gF (f : List Nat → Int) (ys : List Nat) (d : Nat) : Int := oI f (aft d ys)
def ahF (f : List Nat → Int) (c : Nat) (ys : List Nat) : Int := sumTo (gF f ys) c
/-- the place of a row among all that are left -/
def pN : List Nat → List Nat → Int
  | _, [] => 0
  | xs, c :: cs => 1 + ahF mn c xs + match aft c xs with | some r => pN r cs | none => 0
def codeK : Key → Nat
  | .inr s => s.cps.toList.getD 0 0
  | .inl _ => 0
theorem val_of_mem {kvs : List (Key × V)} (hu : keysU kvs) {k : Key} {v : V} (h : (k, v) ∈ kvs) : valV kvs k = some v := by
  induction kvs with
  | nil => cases h
  | cons p r ih =>
    obtain ⟨h1, h2⟩ := List.nodup_cons.mp hu
    rcases List.mem_cons.mp h with e | e
    · subst e; exact valV_pos rfl
    · have hne : p.1 ≠ k := fun z => h1 (List.mem_map.mpr ⟨(k, v), e, z.symm⟩)
      rw [valV_neg hne]; exact ih h2 e
theorem entK_at {ys : List Nat} {p i : Nat} {k : Key} {v : V} (h : (entK ys p)[i]? = some (k, v)) : ∃ d j, k = Sum.inr (sg d) ∧ idx d ys = some j ∧ v = .int ((p + j : Nat) : Int) := by
  have hm := List.mem_of_getElem? h
  obtain ⟨j, d, hj, e⟩ := entK_mem ys p _ hm
  cases e
  have h1 := val_of_mem (entK_u ys p) hm
  rw [entK_val] at h1
  obtain ⟨j', hj', e'⟩ := Option.map_eq_some_iff.mp h1
  exact ⟨d, j', rfl, hj', e'.symm⟩
theorem entK_codes (ys : List Nat) (p : Nat) : ((entK ys p).map fun kv => codeK kv.1).Nodup ∧ ∀ c, c ∈ (entK ys p).map (fun kv => codeK kv.1) ↔ c ∈ ys := by
  have hk : ∀ kv ∈ entK ys p, ∃ d, kv.1 = Sum.inr (sg d) := fun kv hkv => by
    obtain ⟨j, d, _, e⟩ := entK_mem ys p kv hkv
    exact ⟨d, by rw [e]⟩
  constructor
  · have hu : ((entK ys p).map fun kv => kv.1).Nodup := entK_u ys p
    have : (entK ys p).map (fun kv => codeK kv.1) = ((entK ys p).map fun kv => kv.1).map codeK := by rw [List.map_map]; rfl
    rw [this]
    refine List.nodup_iff_pairwise_ne.mpr (List.pairwise_map.mpr ?_)
    refine List.Pairwise.imp_of_mem ?_ (List.nodup_iff_pairwise_ne.mp hu)
    intro a b ha hb hne e
    obtain ⟨x, hx, rfl⟩ := List.mem_map.mp ha
    obtain ⟨y, hy, rfl⟩ := List.mem_map.mp hb
    obtain ⟨d, hd⟩ := hk x hx
    obtain ⟨d', hd'⟩ := hk y hy
    rw [hd, hd'] at e hne
    have e' : d = d' := e
    exact hne (by rw [e'])
  · intro c
    constructor
    · intro h
      obtain ⟨kv, hkv, e⟩ := List.mem_map.mp h
      obtain ⟨j, d, hj, e2⟩ := entK_mem ys p kv hkv
      rw [e2] at e
      have e' : d = c := e
      rw [← e']; exact List.mem_of_getElem? hj
    · intro h
      have h1 : (idx c ys).isSome = true := by rw [nxt_mem.idx_in', decide_eq_true h]
      obtain ⟨j, hj⟩ := Option.isSome_iff_exists.mp h1
      have h2 := entK_val c ys p
      rw [hj] at h2
      have : ∃ v, (Sum.inr (sg c), v) ∈ entK ys p := by
        generalize entK ys p = l at h2
        induction l with
        | nil => cases h2
        | cons q r ih =>
          by_cases e : q.1 = Sum.inr (sg c)
          · exact ⟨q.2, by rw [← e]; exact List.mem_cons_self⟩
          · rw [valV_neg e] at h2
            obtain ⟨v, hv⟩ := ih h2
            exact ⟨v, List.mem_cons_of_mem _ hv⟩
      obtain ⟨v, hv⟩ := this
      exact List.mem_map.mpr ⟨_, hv, rfl⟩
def spAhead (P : Addr) : Sp := fun vs H Q _ => ∃ (d m : Addr) (c p : Nat) (xs : List Nat) (f : List Nat → Int), vs = [.ref d, .ref m, .str (sg c)] ∧ H d = some (.dK (entK (xs.drop p) p)) ∧ H m = some (.lst (tabI (xs.length + 1) fun i => f (xs.drop i))) ∧ p ≤ xs.length ∧ H P = some (.ext (TabP P)) ∧ Q (.int (ahF f c (xs.drop p))) H
def spPlaceOf (K : PySem.W.Frag) (P1 P2 : Addr) : Sp := fun vs H Q _ => ∃ z y : Str, vs = [.str z, .str y] ∧ z.length ≤ 200 ∧ y.length ≤ 200 ∧ IsRow y ∧ (fsts z.cps.toList 0 y.cps.toList).isSome = true ∧ H P1 = some (.ext (TabP P1)) ∧ H P2 = some (.ext (TabP P2)) ∧ ∀ H', Same H H' → Q (.int (pN z.cps.toList y.cps.toList)) H'
def spCountsL : Sp := fun vs H Q _ => ∃ z : Str, vs = [.str z] ∧ IsRow z ∧ z.length ≤ 200 ∧ ∀ (m : Addr) (H' : Hp), Same H H' → H m = none → H' m = some (.lst (tabI (z.cps.toList.length + 1) fun i => mn (z.cps.toList.drop i))) → Q (.ref m) H'
def spWide : Sp := fun vs H Q _ => ∃ (p : Addr) (m : Int), vs = [.ref p, .int m] ∧ HandAt H p ∧ 0 < m ∧ ∀ (v : Int) (H' : Hp), 0 ≤ v → v < m → HandAt H' p → Kp p H H' → Q (.int v) H'
def spLeftDue : Sp := fun vs H Q _ => ∃ (z : Str) (m : Addr) (i : Int), vs = [.str z, .ref m, .int i] ∧ IsRow z ∧ z.length ≤ 200 ∧ H m = some (.lst (tabI (z.cps.toList.length + 1) fun i => mn (z.cps.toList.drop i))) ∧ 0 ≤ i ∧ i < mn z.cps.toList ∧
  ∀ (y : Str) (H' : Hp), IsRow y → y.length ≤ z.length → (fsts z.cps.toList 0 y.cps.toList).isSome = true → pN z.cps.toList y.cps.toList = i → Same H H' → Q (.str y) H'
def spDueN : Sp := fun vs H Q _ => ∃ (z : Str) (m : Addr) (y : Str), vs = [.str z, .ref m, .str y] ∧ IsRow z ∧ z.length ≤ 200 ∧ H m = some (.lst (tabI (z.cps.toList.length + 1) fun i => mn (z.cps.toList.drop i))) ∧ (fsts z.cps.toList 0 y.cps.toList).isSome = true ∧ ∀ H', Same H H' → Q (.int (pN z.cps.toList y.cps.toList)) H'
end L2
set_option Elab.async false
set_option linter.all false
set_option maxRecDepth 100000
set_option maxHeartbeats 4000000
namespace L2
open PySem
/-- the first of the shortest -/
def fm (zs : List (List Nat)) : List Nat := (zs.find? fun z => zs.all fun y => decide (z.length ≤ y.length)).getD []
def comb (ls : List Nat) (rs : List (List Nat × Int)) : List Nat × Int :=
  (fm (List.zipWith (fun c r => c :: r.1) ls rs), ((rs.filter fun r => decide (r.1.length + 1 = (fm (List.zipWith (fun c r => c :: r.1) ls rs)).length)).map (·.2)).sum)
def SFf (ls : List Nat) : Nat → List Nat → List Nat × Int
  | 0, _ => ([], 0)
  | n + 1, xs => match ls.filter fun c => !decide (c ∈ xs) with
    | m :: ms => ([m], ((ms.length + 1 : Nat) : Int))
    | [] => comb ls (ls.map fun c => SFf ls n ((aft c xs).getD []))
def SF (ls xs : List Nat) : List Nat × Int := SFf ls (xs.length + 1) xs
def Tup2 (H : Hp) (r : Addr) (ls xs : List Nat) : Prop := ∃ w : Str, H r = some (.tup [.str w, .int (SF ls xs).2]) ∧ w.cps.toList = (SF ls xs).1
theorem Tup2.same {H H' : Hp} {r : Addr} {ls xs : List Nat} (h : Tup2 H r ls xs) (s : Same H H') : Tup2 H' r ls xs := let ⟨w, a, b⟩ := h; ⟨w, s _ _ a, b⟩
theorem Tup2.kp {H H' : Hp} {r p : Addr} {ls xs : List Nat} (h : Tup2 H r ls xs) (s : Kp p H H') (n : r ≠ p) : Tup2 H' r ls xs := let ⟨w, a, b⟩ := h; ⟨w, s _ _ a n, b⟩
def spShWith : Sp := fun vs H Q _ => ∃ (d m : Addr) (l : Str) (xs : List Nat) (p : Nat) (ts : List Addr), vs = [.ref d, .str l, .ref m] ∧ H d = some (.dK (entK (xs.drop p) p)) ∧ LetOk l ∧ xs.length ≤ 200 ∧ H m = some (.lst (ts.map V.ref)) ∧ ts.length = xs.length + 1 ∧ (∀ (i : Nat) (r : Addr), p < i → ts[i]? = some r → Tup2 H r l.cps.toList (xs.drop i)) ∧
  ∀ (t : Addr) (H' : Hp), Same H H' → H t = none → Tup2 H' t l.cps.toList (xs.drop p) → Q (.ref t) H'
def spShFrom (K : PySem.W.Frag) (P1 P2 : Addr) : Sp := fun vs H Q _ => ∃ (z l : Str), vs = [.str z, .str l] ∧ z.length ≤ 200 ∧ LetOk l ∧ H P1 = some (.ext (TabP P1)) ∧ H P2 = some (.ext (TabP P2)) ∧
  ∀ (m : Addr) (ts : List Addr) (H' : Hp), Same H H' → H' m = some (.lst (ts.map V.ref)) → ts.length = z.cps.toList.length + 1 → (∀ (i : Nat) (r : Addr), ts[i]? = some r → Tup2 H' r l.cps.toList (z.cps.toList.drop i)) → Q (.ref m) H'
def spShNot (K : PySem.W.Frag) (P1 P2 : Addr) : Sp := fun vs H Q _ => ∃ (z l : Str), vs = [.str z, .str l] ∧ z.length ≤ 200 ∧ LetOk l ∧ H P1 = some (.ext (TabP P1)) ∧ H P2 = some (.ext (TabP P2)) ∧ ∀ (w : Str) (H' : Hp), Same H H' → w.cps.toList = (SF l.cps.toList z.cps.toList).1 → Q (.str w) H'
def spManySh (K : PySem.W.Frag) (P1 P2 : Addr) : Sp := fun vs H Q _ => ∃ (z l : Str), vs = [.str z, .str l] ∧ z.length ≤ 200 ∧ LetOk l ∧ H P1 = some (.ext (TabP P1)) ∧ H P2 = some (.ext (TabP P2)) ∧ ∀ (H' : Hp), Same H H' → Q (.int (SF l.cps.toList z.cps.toList).2) H'
def spAllLeft (K : PySem.W.Frag) (P1 P2 : Addr) : Sp := fun vs H Q _ => ∃ (z l : Str), vs = [.str z, .str l] ∧ z.length ≤ 200 ∧ LetOk l ∧ H P1 = some (.ext (TabP P1)) ∧ H P2 = some (.ext (TabP P2)) ∧ ∀ (H' : Hp), Same H H' → Q (.int (((SF l.cps.toList z.cps.toList).1.length : Int) - 1)) H'
end L2
set_option Elab.async false
set_option linter.all false
namespace L2
open PySem
theorem cons_aft {c : Nat} {ws : List Nat} : ∀ {xs r : List Nat}, aft c xs = some r → ((c :: ws).Sublist xs ↔ ws.Sublist r) := by
  intro xs
  induction xs with
  | nil => intro r h; simp [aft] at h
  | cons x xs ih =>
    intro r h
    unfold aft at h
    by_cases hx : x = c
    · subst hx
      simp at h
      subst h
      exact ⟨fun s => List.cons_sublist_cons.mp s, fun s => s.cons_cons _⟩
    · rw [if_neg (by first | exact hx | (intro e; exact hx e.symm) | (simp; exact hx))] at h
      rw [← ih h]
      constructor
      · intro s
        cases s with
        | cons _ s => exact s
        | cons_cons _ s => exact absurd rfl hx
      · exact fun s => s.cons _
/-- one letter put to those met -/
def mt (ls : List Nat) (met : List Nat) (x : Nat) : List Nat := if x ∈ ls then (if x ∈ met then met else met ++ [x]) else met
def rd (ls : List Nat) : List Nat → List Nat → Nat
  | _, [] => 0
  | met, x :: xs => if (mt ls met x).length = ls.length then 1 + rd ls [] xs else rd ls (mt ls met x) xs
end L2
set_option Elab.async false
set_option linter.all false
set_option maxRecDepth 100000
namespace L2
open PySem PySem.Spec PyProof.Rows
def spPartS : Sp := fun vs H Q _ => ∃ (p : Addr) (z : Str), vs = [.ref p, .str z] ∧ HandAt H p ∧ IsRow z ∧ z.length ≤ 200 ∧ ∀ (x : Str) (H' : Hp), IsRow x → x.cps.toList.Sublist z.cps.toList → HandAt H' p → Kp p H H' → Q (.str x) H'
def spWholeE : Sp := fun vs H Q _ => ∃ a b : Int, vs = [.int a, .int b] ∧ Q (.bl (decide (a = b))) H
end L2
namespace L2
end L2
namespace L2
end L2
namespace L2
open PySem
end L2
set_option Elab.async false
set_option linter.all false
set_option maxRecDepth 100000
namespace L2
open PySem PySem.Spec PyProof.Rows
/-- the place of a row among those of its length -/
def pL : List Nat → List Nat → Int
  | _, [] => 0
  | xs, c :: cs => ahF (dn · cs.length) c xs + match aft c xs with | some r => pL r cs | none => 0
structure LL (H0 H : Hp) (m : Addr) (rs : List Addr) (n : Nat) (g : Nat → Nat → Int) : Prop where
  sm : Same H0 H
  n0 : H0 m = none
  nr : ∀ r ∈ rs, H0 r = none
  lst : H m = some (.lst (rs.map V.ref))
  len : rs.length = n + 1
  nd : rs.Nodup
  nm : m ∉ rs
  at_ : ∀ (i : Nat) (r : Addr), rs[i]? = some r → H r = some (.lst (tabI (n + 1) (g i)))
theorem LL.same {H0 H H' : Hp} {m : Addr} {rs : List Addr} {n : Nat} {g : Nat → Nat → Int} (h : LL H0 H m rs n g) (s : Same H H') : LL H0 H' m rs n g :=
  ⟨h.sm.trans s, h.n0, h.nr, s _ _ h.lst, h.len, h.nd, h.nm, fun i r e => s _ _ (h.at_ i r e)⟩
theorem LL.set {H0 H : Hp} {m : Addr} {rs : List Addr} {n : Nat} {g : Nat → Nat → Int} (h : LL H0 H m rs n g) {i : Nat} {r : Addr} (hi : rs[i]? = some r) (f : Nat → Int) :
    LL H0 (upd H r (.lst (tabI (n + 1) f))) m rs n (fun j => if j = i then f else g j) := by
  have hr := List.mem_of_getElem? hi
  refine ⟨fun b o e => ?_, h.n0, h.nr, ?_, h.len, h.nd, h.nm, fun j r' e => ?_⟩
  · rw [upd_ne (ne_of_none e (h.nr r hr))]; exact h.sm b o e
  · rw [upd_ne (fun z => h.nm (by rw [z]; exact hr))]; exact h.lst
  · by_cases hj : j = i
    · subst hj
      rw [hi] at e; cases e
      rw [upd_same, if_pos rfl]
    · have hne : r' ≠ r := fun z => by
        subst z
        obtain ⟨h1, e1⟩ := List.getElem?_eq_some_iff.mp hi
        obtain ⟨h2, e2⟩ := List.getElem?_eq_some_iff.mp e
        exact hj ((List.getElem_inj h.nd).mp (e2.trans e1.symm))
      rw [upd_ne hne, if_neg hj]; exact h.at_ j r' e
theorem LL.congr {H0 H : Hp} {m : Addr} {rs : List Addr} {n : Nat} {g g' : Nat → Nat → Int} (h : LL H0 H m rs n g) (e : ∀ i, i ≤ n → ∀ L, L ≤ n → g i L = g' i L) : LL H0 H m rs n g' :=
  ⟨h.sm, h.n0, h.nr, h.lst, h.len, h.nd, h.nm, fun i r q => by
    have hi := (List.getElem?_eq_some_iff.mp q).1
    rw [h.len] at hi
    rw [h.at_ i r q, tabI_congr fun L hL => e i (by omega) L (by omega)]⟩
structure TabLL (H : Hp) (m : Addr) (xs : List Nat) : Prop where
  ex : ∃ rs : List Addr, H m = some (.lst (rs.map V.ref)) ∧ rs.length = xs.length + 1 ∧ ∀ (i : Nat) (r : Addr), rs[i]? = some r → H r = some (.lst (tabI (xs.length + 1) (dn (xs.drop i))))
theorem TabLL.same {H H' : Hp} {m : Addr} {xs : List Nat} (h : TabLL H m xs) (s : Same H H') : TabLL H' m xs := by
  obtain ⟨rs, a, b, c⟩ := h.ex
  exact ⟨rs, s _ _ a, b, fun i r e => s _ _ (c i r e)⟩
theorem TabLL.row {H : Hp} {m : Addr} {xs : List Nat} (h : TabLL H m xs) {K : PySem.W.Frag} {i : Nat} (hi : i ≤ xs.length) : ∃ (rs : List Addr) (r : Addr), SqL K H m (rs.map V.ref) ∧ atI (rs.map V.ref) ((i : Nat) : Int) = some (.ref r) ∧ H r = some (.lst (tabI (xs.length + 1) (dn (xs.drop i)))) := by
  obtain ⟨rs, a, b, c⟩ := h.ex
  have hr : rs[i]? = some (rs[i]'(by omega)) := List.getElem?_eq_getElem (by omega)
  exact ⟨rs, _, SqL.of a, atI_nat (by rw [List.getElem?_map, hr]; rfl), c i _ hr⟩
def spPlaceInL (K : PySem.W.Frag) (P1 P2 : Addr) : Sp := fun vs H Q _ => ∃ z y : Str, vs = [.str z, .str y] ∧ z.length ≤ 200 ∧ y.length ≤ 200 ∧ IsRow y ∧ (fsts z.cps.toList 0 y.cps.toList).isSome = true ∧ H P1 = some (.ext (TabP P1)) ∧ H P2 = some (.ext (TabP P2)) ∧ ∀ H', Same H H' → Q (.int (pL z.cps.toList y.cps.toList)) H'
def spLensT : Sp := fun vs H Q _ => ∃ z : Str, vs = [.str z] ∧ IsRow z ∧ z.length ≤ 200 ∧ ∀ (m : Addr) (H' : Hp), Same H H' → H m = none → TabLL H' m z.cps.toList → (∀ rs : List Addr, H' m = some (.lst (rs.map V.ref)) → ∀ r ∈ rs, H r = none) → Q (.ref m) H'
def spLenDue : Sp := fun vs H Q _ => ∃ (z : Str) (m : Addr) (n : Nat) (i : Int), vs = [.str z, .ref m, .int (n : Nat), .int i] ∧ IsRow z ∧ z.length ≤ 200 ∧ TabLL H m z.cps.toList ∧ n ≤ z.cps.toList.length ∧ 0 ≤ i ∧ i < dn z.cps.toList n ∧
  ∀ (y : Str) (H' : Hp), IsRow y → y.cps.toList.length = n → (fsts z.cps.toList 0 y.cps.toList).isSome = true → pL z.cps.toList y.cps.toList = i → Same H H' → Q (.str y) H'
def spDueL : Sp := fun vs H Q _ => ∃ (z : Str) (m : Addr) (y : Str), vs = [.str z, .ref m, .str y] ∧ IsRow z ∧ z.length ≤ 200 ∧ TabLL H m z.cps.toList ∧ (fsts z.cps.toList 0 y.cps.toList).isSome = true ∧ ∀ H', Same H H' → Q (.int (pL z.cps.toList y.cps.toList)) H'
/-- lengths being filled in -/
def fillF (ys ds : List Nat) : Nat → Int
  | 0 => 1
  | L + 1 => (ds.map (gF (dn · L) ys)).sum
def fillG (ys ds : List Nat) (d l : Nat) : Nat → Int
  | 0 => 1
  | L + 1 => (ds.map (gF (dn · L) ys)).sum + if L < l then gF (dn · L) ys d else 0
end L2
set_option Elab.async false
set_option linter.all false
set_option maxRecDepth 100000
namespace L2
open PySem PySem.W PyProof.Rows
/-- what a row of askings comes to: things asked are in bounds and unlike -/
def Rn (lt : Nat → Nat → Bool) (n : Nat) {α : Type} : KasT α → α → Prop
  | .ret a, b => b = a
  | .ask i j k, b => i < n ∧ j < n ∧ i ≠ j ∧ Rn lt n (k (lt i j)) b
theorem Rn.bind {lt : Nat → Nat → Bool} {n : Nat} {α β : Type} {f : α → KasT β} {b : β} : ∀ {t : KasT α} {a : α}, Rn lt n t a → Rn lt n (f a) b → Rn lt n (t.bind f) b
  | .ret a, _, h, h2 => by cases h; exact h2
  | .ask i j k, a, ⟨h1, h2, h3, h4⟩, h5 => ⟨h1, h2, h3, Rn.bind h4 h5⟩
theorem Rn.wp {lt : Nat → Nat → Bool} {n : Nat} {α : Type} {cmp : Nat → Nat → (Bool → Shared → Prop) → Shared → Prop} {P : Shared → Prop} (hc : ∀ i j (C : Bool → Shared → Prop) s, i < n → j < n → i ≠ j → P s → (∀ s', P s' → C (lt i j) s') → cmp i j C s) {G : α → Shared → Prop} : ∀ {t : KasT α} {a : α} (s : Shared), Rn lt n t a → P s → (∀ s', P s' → G a s') → t.kasWp cmp G s
  | .ret a, _, s, h, hp, hg => by cases h; exact hg s hp
  | .ask i j k, a, s, ⟨h1, h2, h3, h4⟩, hp, hg => hc i j _ s h1 h2 h3 hp fun s' hp' => Rn.wp hc s' h4 hp' hg
/-- a strict order -/
structure Ord (lt : Nat → Nat → Bool) (n : Nat) : Prop where
  tot : ∀ i j, i < n → j < n → i ≠ j → lt i j = true ∨ lt j i = true
  asy : ∀ i j, i < n → j < n → lt i j = true → lt j i = false
  tra : ∀ i j k, i < n → j < n → k < n → lt i j = true → lt j k = true → lt i k = true
/-- an order of the things -/
structure Pm (p : Array Nat) (n : Nat) : Prop where
  sz : p.size = n
  lt : ∀ i, i < n → p.getD i 0 < n
  inj : ∀ i j, i < n → j < n → p.getD i 0 = p.getD j 0 → i = j
theorem Pm.range (n : Nat) : Pm (List.toArray (List.range n)) n := by
  have e : ∀ i, i < n → (List.toArray (List.range n)).getD i 0 = i := fun i hi => by simp [Array.getD, hi]
  exact ⟨by simp, fun i hi => by rw [e i hi]; exact hi, fun i j hi hj h => by rw [e i hi, e j hj] at h; exact h⟩
theorem getD_of {p : Array Nat} {i : Nat} : p.getD i 0 = (p[i]?).getD 0 := by
  rw [Array.getD_eq_getD_getElem?]
theorem Pm.rev {p : Array Nat} {n m : Nat} (h : Pm p n) (hm : m ≤ n) : Pm (kas_rev p 0 m) n ∧ ∀ i, (kas_rev p 0 m).getD i 0 = if i < m then p.getD (m - 1 - i) 0 else p.getD i 0 := by
  have hb := fun i => getElem?_mirror_all (xs := p) (i := 0) (j := m) (by rw [h.sz]; exact hm) i
  have hg : ∀ i, (kas_rev p 0 m).getD i 0 = if i < m then p.getD (m - 1 - i) 0 else p.getD i 0 := fun i => by
    rw [getD_of]
    show ((mirror p 0 m ((m - 0) / 2))[i]?).getD 0 = _
    rw [hb i]
    by_cases c : i < m
    · rw [if_pos ⟨Nat.zero_le _, c⟩, if_pos c, ← getD_of]
      congr 1; omega
    · rw [if_neg (fun z => c z.2), if_neg c, ← getD_of]
  refine ⟨⟨by show (mirror p 0 m _).size = n; rw [mirror_size]; exact h.sz, fun i hi => ?_, fun i j hi hj e => ?_⟩, hg⟩
  · rw [hg]
    split
    · exact h.lt _ (by omega)
    · exact h.lt i hi
  · rw [hg, hg] at e
    by_cases a : i < m
    · rw [if_pos a] at e
      by_cases b : j < m
      · rw [if_pos b] at e
        have := h.inj _ _ (by omega) (by omega) e
        omega
      · rw [if_neg b] at e
        have := h.inj _ _ (by omega) hj e
        omega
    · rw [if_neg a] at e
      by_cases b : j < m
      · rw [if_pos b] at e
        have := h.inj _ _ hi (by omega) e
        omega
      · rw [if_neg b] at e
        exact h.inj i j hi hj e
/-- the first m rise -/
def Up (lt : Nat → Nat → Bool) (p : Array Nat) (m : Nat) : Prop := ∀ i j, i < j → j < m → lt (p.getD i 0) (p.getD j 0) = true
section
variable {lt : Nat → Nat → Bool} {n : Nat} (O : Ord lt n)
include O
theorem Ord.no {p : Array Nat} (h : Pm p n) {i j : Nat} (hi : i < n) (hj : j < n) (hne : i ≠ j) : lt (p.getD i 0) (p.getD j 0) = !lt (p.getD j 0) (p.getD i 0) := by
  have hd : p.getD i 0 ≠ p.getD j 0 := fun e => hne (h.inj i j hi hj e)
  rcases O.tot _ _ (h.lt i hi) (h.lt j hj) hd with a | a
  · rw [a, O.asy _ _ (h.lt i hi) (h.lt j hj) a]; rfl
  · rw [a, O.asy _ _ (h.lt j hj) (h.lt i hi) a]; rfl
theorem Up.step {p : Array Nat} (h : Pm p n) {m : Nat} (hm : m < n) (u : Up lt p m) (h1 : 0 < m) (hl : lt (p.getD (m - 1) 0) (p.getD m 0) = true) : Up lt p (m + 1) := fun i j hij hj => by
  by_cases e : j = m
  · subst e
    by_cases e2 : i = j - 1
    · rw [e2]; exact hl
    · exact O.tra _ _ _ (h.lt i (by omega)) (h.lt (j - 1) (by omega)) (h.lt j hm) (u i (j - 1) (by omega) (by omega)) hl
  · exact u i j hij (by omega)
end
end L2
set_option Elab.async false
set_option linter.all false
set_option maxRecDepth 100000
namespace L2
open PySem PySem.Spec PyProof.Rows PySem.W
/-- tuples at addresses, each with its sign -/
def Tups (h : Heap) (as : List Addr) (cs : List Nat) : Prop := as.length = cs.length ∧ ∀ (j : Nat) (a : Addr), as[j]? = some a → ∃ t x, h.get? a = some { cls := .type "tuple", data := .seq #[.str (sg (cs.getD j 0)) t, x] }
theorem Tups.mono {h h' : Heap} {as : List Addr} {cs : List Nat} (T : Tups h as cs) (k : ∀ a ∈ as, ∀ o, h.get? a = some o → h'.get? a = some o) : Tups h' as cs :=
  ⟨T.1, fun j a hj => by
    obtain ⟨t, x, e⟩ := T.2 j a hj
    exact ⟨t, x, k a (List.mem_of_getElem? hj) _ e⟩⟩
section
variable {prog : Program} {w : World} {A : Around} {E : Value → Shared → Prop} {s : Shared}
end
end L2
set_option Elab.async false
set_option linter.all false
set_option maxRecDepth 100000
namespace L2
open PySem PySem.Spec PyProof.Rows PySem.W
/-- the things at an order's places -/
def byP {α : Type} (p : Array Nat) (xs : List α) (d : α) : List α := p.toList.map fun i => xs.getD i d
section
variable {prog : Program} {w : World} {A : Around} {E : Value → Shared → Prop} {s : Shared}
end
def tSortI (td : TE) : TE := fun σ H Q => td σ H fun x H1 => ∃ (d : Addr) (kvs : List (Key × V)), x = .ref d ∧ H1 d = some (.dK kvs) ∧ (∀ kv ∈ kvs, ∃ c, kv.1 = Sum.inr (sg c)) ∧ (kvs.map fun kv => codeK kv.1).Nodup ∧ kvs.length < 64 ∧
  ∀ (l : Addr) (ts : List Addr) (kvs' : List (Key × V)) (H2 : Hp), H1 l = none → Same H1 H2 → kvs'.length = kvs.length → (∀ kv, kv ∈ kvs' ↔ kv ∈ kvs) → kvs'.Pairwise (fun a b => codeK a.1 < codeK b.1) → ts.length = kvs'.length → H2 l = some (.lst (ts.map V.ref)) →
    (∀ (j : Nat) (t : Addr), ts[j]? = some t → t ≠ l ∧ ∃ kv, kvs'[j]? = some kv ∧ H2 t = some (.tup [kV kv.1, kv.2])) → Q (.ref l) H2
end L2
set_option Elab.async false
set_option linter.all false
set_option maxRecDepth 100000
namespace L2
open PySem PySem.Spec PyProof.Rows
def pkI (f : Nat → Int) : List Nat → Int → Option (Nat × Int)
  | [], _ => none
  | s :: ss, k => if f (s + 1) ≤ k then pkI f ss (k - f (s + 1)) else some (s, k)
/-- the place of a letter from p on -/
def plc (xs : List Nat) (p d : Nat) : Nat := p + (idx d (xs.drop p)).getD 0
def spInOrder : Sp := fun vs H Q _ => ∃ (d : Addr) (xs : List Nat) (p : Nat), vs = [.ref d] ∧ H d = some (.dK (entK (xs.drop p) p)) ∧ (∀ c ∈ xs, 97 ≤ c ∧ c ≤ 122) ∧
  ∀ (l : Addr) (ds : List Nat) (H' : Hp), Same H H' → H l = none → ds.Pairwise (· < ·) → (∀ c, c ∈ ds ↔ c ∈ xs.drop p) → H' l = some (.lst ((ds.map (plc xs p)).map fun s => .int (s : Nat))) → Q (.ref l) H'
def spPickI : Sp := fun vs H Q _ => ∃ (a b : Addr) (k : Int) (N : Nat) (sp : List Nat) (f : Nat → Int) (r : Nat × Int), vs = [.ref a, .ref b, .int k] ∧ H a = some (.lst (sp.map fun s => .int (s : Nat))) ∧ H b = some (.lst (tabI N f)) ∧ (∀ s ∈ sp, s + 1 < N) ∧ sp.length ≤ 1000 ∧ pkI f sp k = some r ∧ ∀ (t : Addr) (H' : Hp), Same H H' → H t = none → H' t = some (.tup [.int (r.1 : Nat), .int r.2]) → Q (.ref t) H'
def spLeftAt : Sp := fun vs H Q _ => ∃ (z : Str) (i : Int), vs = [.str z, .int i] ∧ IsRow z ∧ z.length ≤ 200 ∧ 0 ≤ i ∧ i < mn z.cps.toList ∧
  ∀ (y : Str) (H' : Hp), IsRow y → y.length ≤ z.length → (fsts z.cps.toList 0 y.cps.toList).isSome = true → pN z.cps.toList y.cps.toList = i → Same H H' → Q (.str y) H'
end L2
namespace L2
open PySem PySem.Spec PyProof.Rows
def spPlcI : Sp := fun vs H Q _ => ∃ a b : Int, vs = [.int a, .int b] ∧ Q (.bl (decide (0 ≤ a ∧ a < b))) H
theorem same_over' {H H1 : Hp} (s : Same H H1) {q : Addr} {o : HO} (h : H q = none) : Same H (upd H1 q o) := fun b u e => by
  rw [upd_ne (ne_of_none e h)]; exact s b u e
end L2
set_option Elab.async false
set_option linter.all false
set_option maxRecDepth 100000
namespace L2
open PySem PySem.Spec PyProof.Rows
theorem bound (xs : List Nat) (c : Nat) : ∃ B, c ≤ B ∧ ∀ x ∈ xs, x < B := by
  induction xs with
  | nil => exact ⟨c, Nat.le_refl _, fun x hx => nomatch hx⟩
  | cons y ys ih =>
    obtain ⟨B, h1, h2⟩ := ih
    refine ⟨max B (y + 1), by omega, fun x hx => ?_⟩
    rcases List.mem_cons.mp hx with rfl | hx
    · omega
    · have := h2 x hx; omega
end L2
set_option Elab.async false
set_option linter.all false
set_option maxRecDepth 100000
namespace L2
open PySem PySem.Spec PyProof.Rows
def spOfLenAt : Sp := fun vs H Q _ => ∃ (z : Str) (n : Nat) (i : Int), vs = [.str z, .int (n : Nat), .int i] ∧ IsRow z ∧ z.length ≤ 200 ∧ n ≤ z.cps.toList.length ∧ 0 ≤ i ∧ i < dn z.cps.toList n ∧
  ∀ (y : Str) (H' : Hp), IsRow y → y.cps.toList.length = n → (fsts z.cps.toList 0 y.cps.toList).isSome = true → pL z.cps.toList y.cps.toList = i → Same H H' → Q (.str y) H'
end L2
set_option Elab.async false
set_option linter.all false
set_option maxRecDepth 100000
namespace L2
open PySem PySem.Spec PyProof.Rows
def spNumL (t1 t2 : Addr) : Sp := fun vs H Q _ => ∃ (z : Str) (n : Nat) (i : Int), vs = [.str z, .int (n : Nat), .int (dn z.cps.toList n), .int i] ∧ IsRow z ∧ z.length ≤ 200 ∧ n ≤ z.cps.toList.length ∧ 0 ≤ i ∧ i < dn z.cps.toList n ∧ H t1 = some (.ext (TabP t1)) ∧ H t2 = some (.ext (TabP t2)) ∧ ∀ H', Same H H' → Q (.bl true) H'
end L2
set_option Elab.async false
set_option linter.all false
set_option maxRecDepth 100000
namespace L2
open PySem PySem.Spec PyProof.Rows
def spShortR : Sp := fun vs H Q _ => ∃ z : Str, vs = [.str z] ∧ IsRow z ∧ z.length < 7 ∧ ∀ H', Same H H' → Q (.bl true) H'
end L2
set_option Elab.async false
set_option linter.all false
set_option maxRecDepth 100000
set_option autoImplicit false
namespace Zs
open PySem PyProof.Rows
structure SB (a₀ : Array Keyed) (st : SortSt) : Prop where
  perm : (arrOf st).Perm a₀
  kind : kindOf st = oneType'
  failed : failedOf st = none
theorem SB.size {a₀ : Array Keyed} {st : SortSt} (h : SB a₀ st) : (arrOf st).size = a₀.size := h.perm.size_eq
/-- the same but for the places from lo on, below hi -/
def Out (lo hi : Nat) (xs ys : Array Keyed) : Prop := ∀ k, k < lo ∨ hi ≤ k → ys[k]? = xs[k]?
theorem Out.refl {lo hi : Nat} (xs : Array Keyed) : Out lo hi xs xs := fun _ _ => rfl
theorem Out.trans {lo hi : Nat} {xs ys zs : Array Keyed} (h : Out lo hi xs ys) (g : Out lo hi ys zs) : Out lo hi xs zs := fun k hk => (g k hk).trans (h k hk)
theorem Out.mono {lo hi lo' hi' : Nat} {xs ys : Array Keyed} (h : Out lo hi xs ys) (a : lo' ≤ lo) (b : hi ≤ hi') : Out lo' hi' xs ys := fun k hk => h k (by omega)
structure Stp (a₀ : Array Keyed) (lo hi : Nat) (st st' : SortSt) : Prop where
  b : SB a₀ st'
  p : pendingOf st' = pendingOf st
  o : Out lo hi (arrOf st) (arrOf st')
theorem Stp.refl {a₀ : Array Keyed} {lo hi : Nat} {st : SortSt} (h : SB a₀ st) : Stp a₀ lo hi st st := ⟨h, rfl, Out.refl _⟩
theorem Stp.trans {a₀ : Array Keyed} {lo hi : Nat} {st st' st'' : SortSt} (h : Stp a₀ lo hi st st') (g : Stp a₀ lo hi st' st'') : Stp a₀ lo hi st st'' := ⟨g.b, g.p.trans h.p, h.o.trans g.o⟩
def Seg (κ : PyProof.Rows.KeyKind) (xs : Array Keyed) (lo n : Nat) : Prop := ∀ i j, i ≤ j → j < n → κ.kle (KK κ xs (lo + i)) (KK κ xs (lo + j))
def Fal (κ : PyProof.Rows.KeyKind) (xs : Array Keyed) (lo n : Nat) : Prop := ∀ i j, i ≤ j → j < n → κ.kle (KK κ xs (lo + j)) (KK κ xs (lo + i))
section
variable {prog : Program} {w : World} {A : Around} {E : Value → Shared → Prop} {s : Shared} {a₀ : Array Keyed} {κ : PyProof.Rows.KeyKind}
theorem SB.key {st : SortSt} (h : SB a₀ st) (h0 : KeysOf κ a₀) {i : Nat} (hi : i < a₀.size) : ∃ x p a, (arrOf st)[i]? = some (x, p) ∧ κ.keyOf x = some a ∧ KK κ (arrOf st) i = a := by
  have hi2 : i < (arrOf st).size := by rw [h.size]; exact hi
  obtain ⟨a, ha⟩ := h0 (arrOf st)[i] ((Array.perm_iff_toList_perm.mp h.perm).mem_iff.mp (by simp))
  have e : (arrOf st)[i]? = some (arrOf st)[i] := getElem?_pos _ i hi2
  exact ⟨_, _, a, e, ha, by unfold KK; rw [e]; simp [ha]⟩
def ascL (lo a m : Nat) : StateT SortSt Sem (Option (Option Nat) × Nat) := forIn [a:m] ((none, a) : Option (Option Nat) × Nat) fun _ c => do
  let r ← ltAt' (lo + c.snd) (lo + c.snd - 1)
  match r with
  | some b => if b = true then pure (ForInStep.done (none, c.snd)) else pure (ForInStep.yield (none, c.snd + 1))
  | _ => pure (ForInStep.done (some none, c.snd))
def tailL (lo n m : Nat) : StateT SortSt Sem (Option Nat) := do
  reverseSlice' lo (lo + n)
  let c ← ascL lo n m
  match c.fst with
  | some r => pure r
  | none => pure (some c.snd)
def descL (lo n m : Nat) : StateT SortSt Sem (Option (Option Nat) × Nat × Nat) := forIn [n:m] ((none, n, 0) : Option (Option Nat) × Nat × Nat) fun _ c => do
  let r ← ltAt' (lo + c.snd.fst) (lo + c.snd.fst - 1)
  match r with
  | some b =>
    if b = true then
      if c.snd.snd > 0 then do
        reverseSlice' (lo + c.snd.fst - (c.snd.snd + 1)) (lo + c.snd.fst)
        pure (ForInStep.yield (none, c.snd.fst + 1, 0))
      else pure (ForInStep.yield (none, c.snd.fst + 1, 0))
    else do
      let r2 ← ltAt' (lo + c.snd.fst - 1) (lo + c.snd.fst)
      match r2 with
      | some b2 => if b2 = true then pure (ForInStep.done (none, c.snd.fst, c.snd.snd)) else pure (ForInStep.yield (none, c.snd.fst + 1, c.snd.snd + 1))
      | _ => pure (ForInStep.done (some none, c.snd.fst, c.snd.snd))
  | _ => pure (ForInStep.done (some none, c.snd.fst, c.snd.snd))
def partL (lo n m : Nat) : StateT SortSt Sem (Option Nat) := do
  liftM (rule "list.sort.descending-run")
  let c ← descL lo (n + 1) m
  match c.fst with
  | some r => pure r
  | none =>
    if c.snd.snd > 0 then do
      reverseSlice' (lo + c.snd.fst - (c.snd.snd + 1)) (lo + c.snd.fst)
      tailL lo c.snd.fst m
    else tailL lo c.snd.fst m
end
end Zs
set_option Elab.async false
set_option linter.all false
set_option maxRecDepth 100000
set_option autoImplicit false
namespace Zs
open PySem PyProof.Rows
section
variable {prog : Program} {w : World} {A : Around} {E : Value → Shared → Prop} {s : Shared} {a₀ : Array Keyed} {κ : PyProof.Rows.KeyKind}
theorem Seg.more {xs : Array Keyed} {lo n : Nat} (h : Seg κ xs lo n) (h1 : 1 ≤ n) (g : κ.kle (KK κ xs (lo + n - 1)) (KK κ xs (lo + n))) : Seg κ xs lo (n + 1) := fun i j hij hj => by
  by_cases hjn : j < n
  · exact h i j hij hjn
  · obtain rfl : j = n := by omega
    by_cases hi : i = j
    · rw [hi]; exact KeyOrd.kle_refl _
    · refine KeyOrd.kle_trans (h i (j - 1) (by omega) (by omega)) ?_
      rw [show lo + (j - 1) = lo + j - 1 by omega]
      exact g
theorem Fal.more {xs : Array Keyed} {lo n : Nat} (h : Fal κ xs lo n) (h1 : 1 ≤ n) (g : κ.kle (KK κ xs (lo + n)) (KK κ xs (lo + n - 1))) : Fal κ xs lo (n + 1) := fun i j hij hj => by
  by_cases hjn : j < n
  · exact h i j hij hjn
  · obtain rfl : j = n := by omega
    by_cases hi : i = j
    · rw [hi]; exact KeyOrd.kle_refl _
    · refine KeyOrd.kle_trans ?_ (h i (j - 1) (by omega) (by omega))
      rw [show lo + (j - 1) = lo + j - 1 by omega]
      exact g
theorem Fal.keys {xs ys : Array Keyed} {lo n : Nat} (h : Fal κ xs lo n) (e : ∀ k, KK κ ys k = KK κ xs k) : Fal κ ys lo n := fun i j hij hj => by
  rw [e, e]; exact h i j hij hj
end
end Zs
set_option Elab.async false
set_option linter.all false
set_option maxRecDepth 100000
set_option autoImplicit false
namespace Zs
open PySem PyProof.Rows
def gallop' : Bool → Keyed → Array Keyed → Nat → Nat → Nat → StateT SortSt Sem (Option Nat) := sortPriv% PySem.Builtin.gallop
def bey (lf : Bool) (ky : Keyed) (ar : Array Keyed) (bs i : Nat) : StateT SortSt Sem (Option Bool) := do
  let p ← elem' ar (bs + i)
  if lf = true then lt' p ky else do
    let r ← lt' ky p
    pure (Option.map (fun b => !b) r)
def gFin (lf : Bool) (ky : Keyed) (ar : Array Keyed) (bs n lo hi : Nat) : StateT SortSt Sem (Option Nat) := do
  let c ← forIn [0:n] ((none, lo, hi) : Option (Option Nat) × Nat × Nat) fun _ c =>
    if c.2.1 ≥ c.2.2 then pure (ForInStep.done (none, c.2.1, c.2.2)) else do
      let r ← bey lf ky ar bs (c.2.1 + (c.2.2 - c.2.1) / 2)
      match r with
      | some b => if b = true then pure (ForInStep.yield (none, c.2.1 + (c.2.2 - c.2.1) / 2 + 1, c.2.2)) else pure (ForInStep.yield (none, c.2.1, c.2.1 + (c.2.2 - c.2.1) / 2))
      | _ => pure (ForInStep.done (some none, c.2.1, c.2.2))
  match c.1 with
  | some r => pure r
  | none => pure (some c.2.2)
def gUp (lf : Bool) (ky : Keyed) (ar : Array Keyed) (bs n h : Nat) : StateT SortSt Sem (Option (Option Nat) × Nat × Nat) := forIn [0:n] ((none, 0, 1) : Option (Option Nat) × Nat × Nat) fun _ c =>
  if c.2.2 ≥ n - h then pure (ForInStep.done (none, c.2.1, c.2.2)) else do
    let r ← bey lf ky ar bs (h + c.2.2)
    match r with
    | some b => if (!b) = true then pure (ForInStep.done (none, c.2.1, c.2.2)) else pure (ForInStep.yield (none, c.2.2, 2 * c.2.2 + 1))
    | _ => pure (ForInStep.done (some none, c.2.1, c.2.2))
def gDn (lf : Bool) (ky : Keyed) (ar : Array Keyed) (bs n h : Nat) : StateT SortSt Sem (Option (Option Nat) × Nat × Nat) := forIn [0:n] ((none, 0, 1) : Option (Option Nat) × Nat × Nat) fun _ c =>
  if c.2.2 ≥ h + 1 then pure (ForInStep.done (none, c.2.1, c.2.2)) else do
    let r ← bey lf ky ar bs (h - c.2.2)
    match r with
    | some b => if b = true then pure (ForInStep.done (none, c.2.1, c.2.2)) else pure (ForInStep.yield (none, c.2.2, 2 * c.2.2 + 1))
    | _ => pure (ForInStep.done (some none, c.2.1, c.2.2))
section
variable {prog : Program} {w : World} {A : Around} {E : Value → Shared → Prop} {s : Shared} {κ : PyProof.Rows.KeyKind}
end
end Zs
set_option Elab.async false
set_option linter.all false
set_option maxRecDepth 100000
set_option autoImplicit false
namespace Zs
open PySem PyProof.Rows
def kyOf (κ : PyProof.Rows.KeyKind) (p : Keyed) : κ.α := (κ.keyOf p.1).getD κ.dflt
def R (κ : PyProof.Rows.KeyKind) (p q : Keyed) : Prop := κ.kle (kyOf κ p) (kyOf κ q)
theorem R.trans {κ : PyProof.Rows.KeyKind} {p q r : Keyed} (h : R κ p q) (g : R κ q r) : R κ p r := KeyOrd.kle_trans h g
structure Mg (κ : PyProof.Rows.KeyKind) (a b o : List Keyed) (i j : Nat) : Prop where
  pw : o.Pairwise (R κ)
  pm : o.Perm (a.take i ++ b.take j)
  le : ∀ p ∈ o, ∀ q ∈ a.drop i ++ b.drop j, R κ p q
def Good (κ : PyProof.Rows.KeyKind) (a b o : List Keyed) : Prop := o.Perm (a ++ b) ∧ o.Pairwise (R κ)
theorem tk_add (l : List Keyed) (i k : Nat) : l.take (i + k) = l.take i ++ (l.drop i).take k := List.take_add
theorem Mg.a {κ : PyProof.Rows.KeyKind} {a b o : List Keyed} {i j : Nat} (h : Mg κ a b o i j) (ha : a.Pairwise (R κ)) (k : Nat) (hk : ∀ p ∈ (a.drop i).take k, ∀ q ∈ b.drop j, R κ p q) : Mg κ a b (o ++ (a.drop i).take k) (i + k) j := by
  have hd : (a.drop i).Pairwise (R κ) := ha.sublist (List.drop_sublist _ _)
  have hsp : (a.drop i).take k ++ a.drop (i + k) = a.drop i := by rw [← List.drop_drop, List.take_append_drop]
  rw [← hsp, List.pairwise_append] at hd
  refine ⟨?_, ?_, fun p hp q hq => ?_⟩
  · rw [List.pairwise_append]
    exact ⟨h.pw, hd.1, fun p hp q hq => h.le p hp q (List.mem_append_left _ (List.mem_of_mem_take hq))⟩
  · rw [tk_add]
    refine (h.pm.append_right _).trans ?_
    rw [List.append_assoc, List.append_assoc]
    exact List.Perm.append_left _ List.perm_append_comm
  · rcases List.mem_append.mp hp with hp | hp
    · refine h.le p hp q ?_
      rcases List.mem_append.mp hq with hq | hq
      · exact List.mem_append_left _ (by rw [← hsp]; exact List.mem_append_right _ hq)
      · exact List.mem_append_right _ hq
    · rcases List.mem_append.mp hq with hq | hq
      · exact hd.2.2 p hp q hq
      · exact hk p hp q hq
theorem Mg.b {κ : PyProof.Rows.KeyKind} {a b o : List Keyed} {i j : Nat} (h : Mg κ a b o i j) (hb : b.Pairwise (R κ)) (k : Nat) (hk : ∀ p ∈ (b.drop j).take k, ∀ q ∈ a.drop i, R κ p q) : Mg κ a b (o ++ (b.drop j).take k) i (j + k) := by
  have hd : (b.drop j).Pairwise (R κ) := hb.sublist (List.drop_sublist _ _)
  have hsp : (b.drop j).take k ++ b.drop (j + k) = b.drop j := by rw [← List.drop_drop, List.take_append_drop]
  rw [← hsp, List.pairwise_append] at hd
  refine ⟨?_, ?_, fun p hp q hq => ?_⟩
  · rw [List.pairwise_append]
    exact ⟨h.pw, hd.1, fun p hp q hq => h.le p hp q (List.mem_append_right _ (List.mem_of_mem_take hq))⟩
  · rw [tk_add, ← List.append_assoc]
    exact h.pm.append_right _
  · rcases List.mem_append.mp hp with hp | hp
    · refine h.le p hp q ?_
      rcases List.mem_append.mp hq with hq | hq
      · exact List.mem_append_left _ hq
      · exact List.mem_append_right _ (by rw [← hsp]; exact List.mem_append_right _ hq)
    · rcases List.mem_append.mp hq with hq | hq
      · exact hk p hp q hq
      · exact hd.2.2 p hp q hq
theorem Mg.done {κ : PyProof.Rows.KeyKind} {a b o : List Keyed} {i j : Nat} (h : Mg κ a b o i j) (ha : a.Pairwise (R κ)) (hb : b.Pairwise (R κ)) (g : ∀ p ∈ a.drop i, ∀ q ∈ b.drop j, R κ p q) : Good κ a b (o ++ a.drop i ++ b.drop j) := by
  refine ⟨?_, ?_⟩
  · have h1 : (o ++ a.drop i ++ b.drop j).Perm (a.take i ++ b.take j ++ a.drop i ++ b.drop j) := (h.pm.append_right _).append_right _
    refine h1.trans ?_
    rw [List.append_assoc (a.take i), List.append_assoc]
    refine (List.Perm.append_left _ (List.Perm.append_right _ List.perm_append_comm)).trans ?_
    rw [List.append_assoc (a.drop i), List.take_append_drop, ← List.append_assoc, List.take_append_drop]
  · rw [List.append_assoc, List.pairwise_append, List.pairwise_append]
    exact ⟨h.pw, ⟨ha.sublist (List.drop_sublist _ _), hb.sublist (List.drop_sublist _ _), g⟩, fun p hp q hq => h.le p hp q hq⟩
theorem Mg.last {κ : PyProof.Rows.KeyKind} {a b o : List Keyed} {i j : Nat} (h : Mg κ a b o i j) (ha : a.Pairwise (R κ)) (hb : b.Pairwise (R κ)) (g : ∀ p ∈ b.drop j, ∀ q ∈ a.drop i, R κ p q) : Good κ a b (o ++ b.drop j ++ a.drop i) := by
  refine ⟨?_, ?_⟩
  · have h1 : (o ++ b.drop j ++ a.drop i).Perm (a.take i ++ b.take j ++ b.drop j ++ a.drop i) := (h.pm.append_right _).append_right _
    refine h1.trans ?_
    rw [List.append_assoc (a.take i), List.take_append_drop, List.append_assoc]
    refine (List.Perm.append_left _ List.perm_append_comm).trans ?_
    rw [← List.append_assoc, List.take_append_drop]
  · rw [List.append_assoc, List.pairwise_append, List.pairwise_append]
    exact ⟨h.pw, ⟨hb.sublist (List.drop_sublist _ _), ha.sublist (List.drop_sublist _ _), g⟩, fun p hp q hq => h.le p hp q (by
      rcases List.mem_append.mp hq with hq | hq
      · exact List.mem_append_right _ hq
      · exact List.mem_append_left _ hq)⟩
structure Mh (κ : PyProof.Rows.KeyKind) (a b o : List Keyed) (i j : Nat) : Prop where
  pw : o.Pairwise (R κ)
  pm : o.Perm (a.drop i ++ b.drop j)
  le : ∀ p ∈ a.take i ++ b.take j, ∀ q ∈ o, R κ p q
theorem tk_split {l : List Keyed} {i k : Nat} (h : k ≤ i) : l.take k ++ (l.take i).drop k = l.take i := by
  have := List.take_append_drop k (l.take i)
  rwa [List.take_take, Nat.min_eq_left h] at this
theorem dr_split {l : List Keyed} {i k : Nat} (h : k ≤ i) : (l.take i).drop k ++ l.drop i = l.drop k := by
  have h1 : l.take i ++ l.drop i = l := List.take_append_drop i l
  by_cases hl : k ≤ (l.take i).length
  · conv => rhs; rw [← h1]
    rw [List.drop_append_of_le_length hl]
  · rw [List.length_take] at hl
    rw [List.drop_eq_nil_of_le (by rw [List.length_take]; omega), List.drop_eq_nil_of_le (as := l) (i := i) (by omega), List.drop_eq_nil_of_le (as := l) (i := k) (by omega)]
    rfl
theorem Mh.a {κ : PyProof.Rows.KeyKind} {a b o : List Keyed} {i j : Nat} (h : Mh κ a b o i j) (ha : a.Pairwise (R κ)) {k : Nat} (hki : k ≤ i) (hk : ∀ q ∈ (a.take i).drop k, ∀ p ∈ b.take j, R κ p q) : Mh κ a b ((a.take i).drop k ++ o) k j := by
  have hd : (a.take i).Pairwise (R κ) := ha.sublist (List.take_sublist _ _)
  have hsp := tk_split (l := a) hki
  rw [← hsp, List.pairwise_append] at hd
  refine ⟨?_, ?_, fun p hp q hq => ?_⟩
  · rw [List.pairwise_append]
    exact ⟨hd.2.1, h.pw, fun p hp q hq => h.le p (List.mem_append_left _ (List.mem_of_mem_drop hp)) q hq⟩
  · refine (List.Perm.append_left _ h.pm).trans ?_
    rw [← List.append_assoc, dr_split hki]
  · rcases List.mem_append.mp hq with hq | hq
    · rcases List.mem_append.mp hp with hp | hp
      · exact hd.2.2 p hp q hq
      · exact hk q hq p hp
    · refine h.le p ?_ q hq
      rcases List.mem_append.mp hp with hp | hp
      · exact List.mem_append_left _ (by rw [← hsp]; exact List.mem_append_left _ hp)
      · exact List.mem_append_right _ hp
theorem Mh.b {κ : PyProof.Rows.KeyKind} {a b o : List Keyed} {i j : Nat} (h : Mh κ a b o i j) (hb : b.Pairwise (R κ)) {k : Nat} (hkj : k ≤ j) (hk : ∀ q ∈ (b.take j).drop k, ∀ p ∈ a.take i, R κ p q) : Mh κ a b ((b.take j).drop k ++ o) i k := by
  have hd : (b.take j).Pairwise (R κ) := hb.sublist (List.take_sublist _ _)
  have hsp := tk_split (l := b) hkj
  rw [← hsp, List.pairwise_append] at hd
  refine ⟨?_, ?_, fun p hp q hq => ?_⟩
  · rw [List.pairwise_append]
    exact ⟨hd.2.1, h.pw, fun p hp q hq => h.le p (List.mem_append_right _ (List.mem_of_mem_drop hp)) q hq⟩
  · refine (List.Perm.append_left _ h.pm).trans ?_
    rw [← dr_split (l := b) hkj, ← List.append_assoc, ← List.append_assoc]
    exact List.Perm.append_right _ List.perm_append_comm
  · rcases List.mem_append.mp hq with hq | hq
    · rcases List.mem_append.mp hp with hp | hp
      · exact hk q hq p hp
      · exact hd.2.2 p hp q hq
    · refine h.le p ?_ q hq
      rcases List.mem_append.mp hp with hp | hp
      · exact List.mem_append_left _ hp
      · exact List.mem_append_right _ (by rw [← hsp]; exact List.mem_append_left _ hp)
theorem Mh.done {κ : PyProof.Rows.KeyKind} {a b o : List Keyed} {i j : Nat} (h : Mh κ a b o i j) (ha : a.Pairwise (R κ)) (hb : b.Pairwise (R κ)) (g : ∀ p ∈ a.take i, ∀ q ∈ b.take j, R κ p q) : Good κ a b (a.take i ++ b.take j ++ o) := by
  refine ⟨?_, ?_⟩
  · refine (List.Perm.append_left _ h.pm).trans ?_
    rw [List.append_assoc (a.take i), ← List.append_assoc (b.take j)]
    refine (List.Perm.append_left _ (List.Perm.append_right _ List.perm_append_comm)).trans ?_
    rw [List.append_assoc (a.drop i), List.take_append_drop, ← List.append_assoc, List.take_append_drop]
  · rw [List.pairwise_append, List.pairwise_append]
    exact ⟨⟨ha.sublist (List.take_sublist _ _), hb.sublist (List.take_sublist _ _), g⟩, h.pw, fun p hp q hq => h.le p hp q hq⟩
theorem Mh.first {κ : PyProof.Rows.KeyKind} {a b o : List Keyed} {i j : Nat} (h : Mh κ a b o i j) (ha : a.Pairwise (R κ)) (hb : b.Pairwise (R κ)) (g : ∀ p ∈ b.take j, ∀ q ∈ a.take i, R κ p q) : Good κ a b (b.take j ++ a.take i ++ o) := by
  refine ⟨?_, ?_⟩
  · refine (List.Perm.append_left _ h.pm).trans ?_
    refine (List.Perm.append_right _ List.perm_append_comm).trans ?_
    rw [List.append_assoc (a.take i), ← List.append_assoc (b.take j)]
    refine (List.Perm.append_left _ (List.Perm.append_right _ List.perm_append_comm)).trans ?_
    rw [List.append_assoc (a.drop i), List.take_append_drop, ← List.append_assoc, List.take_append_drop]
  · rw [List.pairwise_append, List.pairwise_append]
    exact ⟨⟨hb.sublist (List.take_sublist _ _), ha.sublist (List.take_sublist _ _), g⟩, h.pw, fun p hp q hq => h.le p (by
      rcases List.mem_append.mp hp with hp | hp
      · exact List.mem_append_right _ hp
      · exact List.mem_append_left _ hp) q hq⟩
theorem ex_list (a : Array Keyed) (i j : Nat) : (a.extract i j).toList = (a.toList.drop i).take (j - i) := by rw [Array.toList_extract, List.extract_eq_drop_take]
theorem at_list {a : Array Keyed} {i : Nat} {p : Keyed} (h : a[i]? = some p) : a.toList[i]? = some p := by rw [Array.getElem?_toList]; exact h
theorem dr_cons {l : List Keyed} {i : Nat} {p : Keyed} (h : l[i]? = some p) : l.drop i = p :: l.drop (i + 1) := by
  obtain ⟨hi, e⟩ := List.getElem?_eq_some_iff.mp h
  rw [List.drop_eq_getElem_cons hi, e]
theorem tk1 {l : List Keyed} {i : Nat} {p : Keyed} (h : l[i]? = some p) : (l.drop i).take 1 = [p] := by rw [dr_cons h]; rfl
end Zs
set_option Elab.async false
set_option linter.all false
set_option maxRecDepth 100000
set_option autoImplicit false
namespace Zs
open PySem PyProof.Rows
structure Sm (st st' : SortSt) : Prop where
  k : kindOf st' = kindOf st
  a : arrOf st' = arrOf st
  p : pendingOf st' = pendingOf st
  f : failedOf st' = failedOf st
theorem Sm.refl (st : SortSt) : Sm st st := ⟨rfl, rfl, rfl, rfl⟩
theorem Sm.trans {x y z : SortSt} (h : Sm x y) (g : Sm y z) : Sm x z := ⟨g.k.trans h.k, g.a.trans h.a, g.p.trans h.p, g.f.trans h.f⟩
def setMinGallop' : Nat → StateT SortSt Sem Unit := sortPriv% PySem.Builtin.setMinGallop
def mergeLo' : Array Keyed → Array Keyed → StateT SortSt Sem (Array Keyed) := sortPriv% PySem.Builtin.mergeLo
def mergeHi' : Array Keyed → Array Keyed → StateT SortSt Sem (Array Keyed) := sortPriv% PySem.Builtin.mergeHi
section
variable {prog : Program} {w : World} {A : Around} {E : Value → Shared → Prop} {s : Shared} {κ : PyProof.Rows.KeyKind}
def Kd (κ : PyProof.Rows.KeyKind) (l : List Keyed) : Prop := ∀ p ∈ l, ∃ a, κ.keyOf p.1 = some a
theorem Kd.at {l : List Keyed} (h : Kd κ l) {p : Keyed} (hp : p ∈ l) : κ.keyOf p.1 = some (kyOf κ p) := by
  obtain ⟨a, ha⟩ := h p hp
  unfold kyOf; rw [ha]; rfl
end
end Zs
set_option Elab.async false
set_option linter.all false
set_option maxRecDepth 100000
set_option autoImplicit false
namespace Zs
open PySem PyProof.Rows
section
variable {prog : Program} {w : World} {A : Around} {E : Value → Shared → Prop} {s : Shared} {κ : PyProof.Rows.KeyKind}
abbrev LoT := Option (Array Keyed) × Array Keyed × Nat × Nat × Nat × Nat × Nat
def loA (a b out : Array Keyed) (i j g ac bc : Nat) : StateT SortSt Sem (ForInStep LoT) := do
  let p ← elem' a i
  if (i + 1 + 1 == a.size) = true then pure (ForInStep.done (some (out.push p ++ b.extract j ++ a.extract (i + 1)), out.push p, i + 1, j, g, ac, bc))
  else if (decide (ac < 7) && decide (bc < 7)) = true then pure (ForInStep.done (none, out.push p, i + 1, j, g, ac, bc)) else pure (ForInStep.yield (none, out.push p, i + 1, j, g, ac, bc))
def loB (a b out : Array Keyed) (i j g ac bc : Nat) : StateT SortSt Sem (ForInStep LoT) := do
  let p ← elem' b j
  if (j + 1 == b.size) = true then pure (ForInStep.done (some (out.push p ++ a.extract i ++ b.extract (j + 1)), out.push p, i, j + 1, g, ac, bc)) else do
    let p2 ← elem' a i
    let r ← gallop' true p2 b (j + 1) (b.size - (j + 1)) 0
    match r with
    | some k =>
      if k > 0 then
        if (j + 1 + k == b.size) = true then pure (ForInStep.done (some (out.push p ++ b.extract (j + 1) (j + 1 + k) ++ a.extract i ++ b.extract (j + 1 + k)), out.push p ++ b.extract (j + 1) (j + 1 + k), i, j + 1 + k, g, ac, k))
        else loA a b (out.push p ++ b.extract (j + 1) (j + 1 + k)) i (j + 1 + k) g ac k
      else loA a b (out.push p) i (j + 1) g ac k
    | _ => pure (ForInStep.done (some (out.push p ++ a.extract i ++ b.extract (j + 1)), out.push p, i, j + 1, g, ac, bc))
def loC (a b out : Array Keyed) (i j g ac bc : Nat) : StateT SortSt Sem (ForInStep LoT) := do
  setMinGallop' g
  let p ← elem' b j
  let r ← gallop' false p a i (a.size - i) 0
  match r with
  | some k =>
    if k > 0 then
      if (i + k + 1 == a.size) = true then pure (ForInStep.done (some (out ++ a.extract i (i + k) ++ b.extract j ++ a.extract (i + k)), out ++ a.extract i (i + k), i + k, j, g, k, bc))
      else if (i + k == a.size) = true then pure (ForInStep.done (some (out ++ a.extract i (i + k) ++ a.extract (i + k) ++ b.extract j), out ++ a.extract i (i + k), i + k, j, g, k, bc))
      else loB a b (out ++ a.extract i (i + k)) (i + k) j g k bc
    else loB a b out i j g k bc
  | _ => pure (ForInStep.done (some (out ++ a.extract i ++ b.extract j), out, i, j, g, ac, bc))
/-- what stands at the front merge -/
structure Lo (κ : PyProof.Rows.KeyKind) (a b : Array Keyed) : Prop where
  K : Kd κ (a.toList ++ b.toList)
  sa : a.toList.Pairwise (R κ)
  sb : b.toList.Pairwise (R κ)
  top : ∀ q ∈ b.toList, ∀ p, a[a.size - 1]? = some p → R κ q p
theorem Lo.atA {a b : Array Keyed} (L : Lo κ a b) {i : Nat} (hi : i < a.size) : ∃ p, a[i]? = some p ∧ a.toList[i]? = some p ∧ p ∈ a.toList ++ b.toList := ⟨a[i], getElem?_pos a i hi, at_list (getElem?_pos a i hi), List.mem_append_left _ (by simp)⟩
theorem ex_all (a : Array Keyed) (i : Nat) : (a.extract i).toList = a.toList.drop i := by rw [ex_list, List.take_of_length_le (by rw [List.length_drop, Array.length_toList]; omega)]
theorem Lo.done {a b : Array Keyed} (L : Lo κ a b) {out : Array Keyed} {i j : Nat} (M : Mg κ a.toList b.toList out.toList i j) (h : i = a.size ∨ j = b.size) : Good κ a.toList b.toList (out ++ a.extract i ++ b.extract j).toList := by
  rw [Array.toList_append, Array.toList_append, ex_all, ex_all]
  refine M.done L.sa L.sb fun p hp r hr => ?_
  rcases h with rfl | rfl
  · rw [List.drop_eq_nil_of_le (by simp)] at hp; cases hp
  · rw [List.drop_eq_nil_of_le (by simp)] at hr; cases hr
theorem Lo.last {a b : Array Keyed} (L : Lo κ a b) {out : Array Keyed} {i j : Nat} (M : Mg κ a.toList b.toList out.toList i j) (h : i + 1 = a.size) : Good κ a.toList b.toList (out ++ b.extract j ++ a.extract i).toList := by
  rw [Array.toList_append, Array.toList_append, ex_all, ex_all]
  obtain ⟨p, e1, e2, _⟩ := L.atA (i := i) (by omega)
  refine M.last L.sa L.sb fun r hr p' hp' => ?_
  rw [dr_cons e2, List.drop_eq_nil_of_le (by rw [Array.length_toList]; omega)] at hp'
  rw [List.mem_singleton.mp hp']
  exact L.top r (List.mem_of_mem_drop hr) p (by rw [show a.size - 1 = i by omega]; exact e1)
structure LoP (κ : PyProof.Rows.KeyKind) (a b : Array Keyed) (st : SortSt) (N : Nat) (P : ForInStep LoT → SortSt → Prop) : Prop where
  r : ∀ (r out : Array Keyed) (i j g ac bc : Nat) (st' : SortSt), Sm st st' → Good κ a.toList b.toList r.toList → P (ForInStep.done (some r, out, i, j, g, ac, bc)) st'
  d : ∀ (out : Array Keyed) (i j g ac bc : Nat) (st' : SortSt), Sm st st' → Mg κ a.toList b.toList out.toList i j → i + 1 < a.size → j < b.size → N ≤ i + j → P (ForInStep.done (none, out, i, j, g, ac, bc)) st'
  y : ∀ (out : Array Keyed) (i j g ac bc : Nat) (st' : SortSt), Sm st st' → Mg κ a.toList b.toList out.toList i j → i + 1 < a.size → j < b.size → N ≤ i + j → P (ForInStep.yield (none, out, i, j, g, ac, bc)) st'
end
end Zs
set_option Elab.async false
set_option linter.all false
set_option maxRecDepth 100000
set_option autoImplicit false
namespace Zs
open PySem PyProof.Rows
section
variable {prog : Program} {w : World} {A : Around} {E : Value → Shared → Prop} {s : Shared} {κ : PyProof.Rows.KeyKind}
abbrev HiT := Option (Array Keyed) × Nat × Nat × Array Keyed × Nat × Nat × Nat
def hiA (a b out : Array Keyed) (i j g ac bc : Nat) : StateT SortSt Sem (ForInStep HiT) := do
  let p ← elem' a (i - 1)
  if (i - 1 == 0) = true then pure (ForInStep.done (some (a.extract 0 (i - 1) ++ b.extract 0 j ++ (out.push p).reverse), i - 1, j, out.push p, g, ac, bc))
  else if (decide (ac < 7) && decide (bc < 7)) = true then pure (ForInStep.done (none, i - 1, j, out.push p, g, ac, bc)) else pure (ForInStep.yield (none, i - 1, j, out.push p, g, ac, bc))
def hiB (a b out : Array Keyed) (i j g ac bc : Nat) : StateT SortSt Sem (ForInStep HiT) := do
  let p ← elem' b (j - 1)
  if (j - 1 == 1) = true then pure (ForInStep.done (some (b.extract 0 (j - 1) ++ a.extract 0 i ++ (out.push p).reverse), i, j - 1, out.push p, g, ac, bc)) else do
    let p2 ← elem' a (i - 1)
    let r ← gallop' true p2 b 0 (j - 1) (j - 1 - 1)
    match r with
    | some k =>
      if j - 1 - k > 0 then
        if (k == 1) = true then pure (ForInStep.done (some (b.extract 0 k ++ a.extract 0 i ++ (out.push p ++ (b.extract k (j - 1)).reverse).reverse), i, k, out.push p ++ (b.extract k (j - 1)).reverse, g, ac, j - 1 - k))
        else if (k == 0) = true then pure (ForInStep.done (some (a.extract 0 i ++ b.extract 0 k ++ (out.push p ++ (b.extract k (j - 1)).reverse).reverse), i, k, out.push p ++ (b.extract k (j - 1)).reverse, g, ac, j - 1 - k))
        else hiA a b (out.push p ++ (b.extract k (j - 1)).reverse) i k g ac (j - 1 - k)
      else hiA a b (out.push p) i (j - 1) g ac (j - 1 - k)
    | _ => pure (ForInStep.done (some (a.extract 0 i ++ b.extract 0 (j - 1) ++ (out.push p).reverse), i, j - 1, out.push p, g, ac, bc))
def hiC (a b out : Array Keyed) (i j g ac bc : Nat) : StateT SortSt Sem (ForInStep HiT) := do
  setMinGallop' g
  let p ← elem' b (j - 1)
  let r ← gallop' false p a 0 i (i - 1)
  match r with
  | some k =>
    if i - k > 0 then
      if (k == 0) = true then pure (ForInStep.done (some (a.extract 0 k ++ b.extract 0 j ++ (out ++ (a.extract k i).reverse).reverse), k, j, out ++ (a.extract k i).reverse, g, i - k, bc))
      else hiB a b (out ++ (a.extract k i).reverse) k j g (i - k) bc
    else hiB a b out i j g (i - k) bc
  | _ => pure (ForInStep.done (some (a.extract 0 i ++ b.extract 0 j ++ out.reverse), i, j, out, g, ac, bc))
/-- what stands at the merge from behind -/
structure Hi (κ : PyProof.Rows.KeyKind) (a b : Array Keyed) : Prop where
  K : Kd κ (a.toList ++ b.toList)
  sa : a.toList.Pairwise (R κ)
  sb : b.toList.Pairwise (R κ)
  bot : ∀ q ∈ a.toList, ∀ p, b[0]? = some p → R κ p q
abbrev MH (κ : PyProof.Rows.KeyKind) (a b out : Array Keyed) (i j : Nat) : Prop := Mh κ a.toList b.toList out.toList.reverse i j
theorem Hi.atA {a b : Array Keyed} (L : Hi κ a b) {i : Nat} (hi : i < a.size) : ∃ p, a[i]? = some p ∧ a.toList[i]? = some p ∧ p ∈ a.toList ++ b.toList := ⟨a[i], getElem?_pos a i hi, at_list (getElem?_pos a i hi), List.mem_append_left _ (by simp)⟩
theorem ex_0 (a : Array Keyed) (i : Nat) : (a.extract 0 i).toList = a.toList.take i := by rw [ex_list, List.drop_zero, Nat.sub_zero]
theorem Hi.done {a b : Array Keyed} (L : Hi κ a b) {out : Array Keyed} {i j : Nat} (M : MH κ a b out i j) (h : i = 0 ∨ j = 0) : Good κ a.toList b.toList (a.extract 0 i ++ b.extract 0 j ++ out.reverse).toList := by
  rw [Array.toList_append, Array.toList_append, ex_0, ex_0, Array.toList_reverse]
  refine M.done L.sa L.sb fun p hp r hr => ?_
  rcases h with rfl | rfl
  · rw [List.take_zero] at hp; cases hp
  · rw [List.take_zero] at hr; cases hr
theorem Hi.first {a b : Array Keyed} (L : Hi κ a b) {out : Array Keyed} {i j : Nat} (M : MH κ a b out i j) (h : j = 1) : Good κ a.toList b.toList (b.extract 0 j ++ a.extract 0 i ++ out.reverse).toList := by
  rw [Array.toList_append, Array.toList_append, ex_0, ex_0, Array.toList_reverse]
  refine M.first L.sa L.sb fun p hp r hr => ?_
  subst h
  obtain ⟨k, hk⟩ := List.mem_iff_getElem?.mp hp
  have hk0 : k = 0 := by have := (List.getElem?_eq_some_iff.mp hk).1; rw [List.length_take] at this; omega
  subst hk0
  rw [List.getElem?_take_of_lt (by omega)] at hk
  exact L.bot r (List.mem_of_mem_take hr) p (by rw [Array.getElem?_toList] at hk; exact hk)
structure HiP (κ : PyProof.Rows.KeyKind) (a b : Array Keyed) (st : SortSt) (N : Nat) (P : ForInStep HiT → SortSt → Prop) : Prop where
  r : ∀ (r out : Array Keyed) (i j g ac bc : Nat) (st' : SortSt), Sm st st' → Good κ a.toList b.toList r.toList → P (ForInStep.done (some r, i, j, out, g, ac, bc)) st'
  d : ∀ (out : Array Keyed) (i j g ac bc : Nat) (st' : SortSt), Sm st st' → MH κ a b out i j → 0 < i → 1 < j → i + j ≤ N → i ≤ a.size → j ≤ b.size → P (ForInStep.done (none, i, j, out, g, ac, bc)) st'
  y : ∀ (out : Array Keyed) (i j g ac bc : Nat) (st' : SortSt), Sm st st' → MH κ a b out i j → 0 < i → 1 < j → i + j ≤ N → i ≤ a.size → j ≤ b.size → P (ForInStep.yield (none, i, j, out, g, ac, bc)) st'
end
end Zs
set_option Elab.async false
set_option linter.all false
set_option maxRecDepth 100000
set_option autoImplicit false
namespace Zs
open PySem PyProof.Rows
section
variable {κ : PyProof.Rows.KeyKind}
end
section
variable {prog : Program} {w : World} {A : Around} {E : Value → Shared → Prop} {s : Shared} {a₀ : Array Keyed} {κ : PyProof.Rows.KeyKind}
end
end Zs
set_option Elab.async false
set_option linter.all false
set_option maxRecDepth 100000
set_option autoImplicit false
namespace Zs
open PySem PyProof.Rows
section
variable {κ : PyProof.Rows.KeyKind}
/-- runs one behind the other, each rising -/
def Chn (κ : PyProof.Rows.KeyKind) (xs : Array Keyed) : List (Nat × Nat × Nat) → Nat → Nat → Prop
  | [], s, e => s = e
  | r :: t, s, e => r.1 = s ∧ 0 < r.2.1 ∧ Seg κ xs s r.2.1 ∧ Chn κ xs t (s + r.2.1) e
theorem Chn.le {xs : Array Keyed} : ∀ {l : List (Nat × Nat × Nat)} {s e : Nat}, Chn κ xs l s e → s + l.length ≤ e
  | [], s, e, h => by have h : s = e := h; rw [List.length_nil]; omega
  | r :: t, s, e, h => by
    obtain ⟨_, h2, _, h4⟩ := h
    have := Chn.le h4
    rw [List.length_cons]; omega
theorem Chn.app {xs : Array Keyed} : ∀ {l m : List (Nat × Nat × Nat)} {s e : Nat}, Chn κ xs (l ++ m) s e ↔ ∃ k, Chn κ xs l s k ∧ Chn κ xs m k e
  | [], m, s, e => ⟨fun h => ⟨s, rfl, h⟩, fun ⟨k, h1, h2⟩ => by have h1 : s = k := h1; rw [h1]; exact h2⟩
  | r :: t, m, s, e => by
    constructor
    · rintro ⟨h1, h2, h3, h4⟩
      obtain ⟨k, g1, g2⟩ := Chn.app.mp h4
      exact ⟨k, ⟨h1, h2, h3, g1⟩, g2⟩
    · rintro ⟨k, ⟨h1, h2, h3, h4⟩, g⟩
      exact ⟨h1, h2, h3, Chn.app.mpr ⟨k, h4, g⟩⟩
theorem Chn.mod {xs : Array Keyed} {f : Nat × Nat × Nat → Nat × Nat × Nat} (hf : ∀ r, (f r).1 = r.1 ∧ (f r).2.1 = r.2.1) : ∀ {l : List (Nat × Nat × Nat)} {s e n : Nat}, Chn κ xs l s e → Chn κ xs (l.modify n f) s e
  | [], s, e, n, h => by rw [List.modify_nil]; exact h
  | r :: t, s, e, 0, ⟨h1, h2, h3, h4⟩ => by
    rw [List.modify_zero_cons]
    obtain ⟨f1, f2⟩ := hf r
    exact ⟨f1.trans h1, by rw [f2]; exact h2, by rw [f2]; exact h3, by rw [f2]; exact h4⟩
  | r :: t, s, e, n + 1, ⟨h1, h2, h3, h4⟩ => by
    rw [List.modify_succ_cons]
    exact ⟨h1, h2, h3, Chn.mod hf h4⟩
end
section
variable {prog : Program} {w : World} {A : Around} {E : Value → Shared → Prop} {s : Shared} {a₀ : Array Keyed} {κ : PyProof.Rows.KeyKind}
abbrev Pd (κ : PyProof.Rows.KeyKind) (st : SortSt) (e : Nat) : Prop := Chn κ (arrOf st) (pendingOf st).toList 0 e
def runR (z lo n : Nat) : StateT SortSt Sem (ForInStep (Option Unit × Nat)) := do
  let st1 ← get
  match (pendingOf st1).back? with
  | some (b, m, _) => do
    let c ← forIn [0:z] ((none, ()) : Option Unit × Unit) fun _ _ => do
      let st2 ← get
      match (if (pendingOf st2).size > 1 then (pendingOf st2)[(pendingOf st2).size - 2]? else none) with
      | some (_, _, o) => if o ≤ power' z (2 * b + m) (2 * b + m + m + n) z then pure (ForInStep.done (none, ())) else do
          let r ← mergeAt' ((pendingOf st2).size - 2)
          if (!r) = true then pure (ForInStep.done (some (), ())) else pure (ForInStep.yield (none, ()))
      | _ => pure (ForInStep.done (none, ()))
    match c.1 with
    | some r => pure (ForInStep.done (some r, lo))
    | none => do
      modify fun st3 => setPending st3 ((pendingOf st3).modify ((pendingOf st3).size - 1) fun x => (x.1, x.2.1, power' z (2 * b + m) (2 * b + m + m + n) z))
      modify fun st3 => setPending st3 ((pendingOf st3).push (lo, n, 0))
      pure (ForInStep.yield (none, lo + n))
  | _ => do
    modify fun st3 => setPending st3 ((pendingOf st3).push (lo, n, 0))
    pure (ForInStep.yield (none, lo + n))
theorem Pd.push {st : SortSt} {lo n : Nat} (C : Pd κ st lo) (n1 : 1 ≤ n) (g : Seg κ (arrOf st) lo n) : Pd κ (setPending st ((pendingOf st).push (lo, n, 0))) (lo + n) := by
  show Chn κ (arrOf st) ((pendingOf st).push (lo, n, 0)).toList 0 (lo + n)
  rw [Array.toList_push]
  exact Chn.app.mpr ⟨lo, C, rfl, by show 0 < n; omega, g, rfl⟩
end
end Zs
set_option Elab.async false
set_option linter.all false
set_option maxRecDepth 100000
set_option autoImplicit false
namespace Zs
open PySem PyProof.Rows
section
variable {prog : Program} {w : World} {A : Around} {E : Value → Shared → Prop} {s : Shared} {κ : PyProof.Rows.KeyKind}
end
@[reducible] def intK : PyProof.Rows.KeyKind where
  α := Int
  blt a b := decide (a < b)
  irrefl a := by simp
  trans a b c h1 h2 := by simp only [decide_eq_true_eq] at *; omega
  negTrans a b c h := by simp only [decide_eq_true_eq] at *; omega
  total a b h1 h2 := by simp only [decide_eq_false_iff_not] at *; omega
  keyOf v := match v with | .int x _ => some x | _ => none
  dflt := 0
end Zs
set_option Elab.async false
set_option linter.all false
set_option maxRecDepth 100000
set_option maxHeartbeats 3200000
namespace L2
open PySem PySem.Spec PyProof.Rows
def rDUpdate : V → List V → Hp → VK → Prop := fun x vs H Q => ∃ d d2 kvs kvs2, x = .ref d ∧ vs = [.ref d2] ∧ d ≠ d2 ∧ H d = some (.dK kvs) ∧ Rd H d2 (.dK kvs2) ∧ kvs.length + kvs2.length ≤ sizeLine ∧ Q .non (upd H d (.dK (mergeK kvs kvs2)))
end L2
set_option Elab.async false
set_option linter.all false
set_option maxRecDepth 100000
set_option maxHeartbeats 3200000
namespace L2
open PySem PySem.Spec PyProof.Rows
section
variable {prog : Program} {w : World} {A : Around} {E : Value → Shared → Prop} {s : Shared}
end
/-- sorted(d): the keys, texts, in order -/
def rSortedD : List V → Hp → VK → Prop := fun xs H Q => ∃ (d : Addr) (kvs : List (Key × V)) (zs : List Str), xs = [.ref d] ∧ Rd H d (.dK kvs) ∧ kvs.map (·.1) = zs.map Sum.inr ∧ kvs.length ≤ 100000 ∧ ∀ (ys : List Str) (p : Addr), ys.Perm zs → sortedS ys = true → H p = none → Q (.ref p) (upd H p (.lst (ys.map V.str)))
end L2
set_option Elab.async false
set_option linter.all false
set_option maxRecDepth 100000
namespace L2
open PySem PySem.Spec PyProof.Rows
def ofK (ks : List Str) : List (Key × V) := ks.map fun k => (Sum.inr k, V.bl true)
def addL (ks js : List Str) : List Str := js.foldl (fun a j => if j ∈ a then a else a ++ [j]) ks
def spAllS : Sp := fun vs H Q _ => ∃ z : Str, vs = [.str z] ∧ IsRow z ∧ z.length ≤ 12 ∧ ∀ (m : Addr) (ws : List Str) (H' : Hp), Same H H' → H m = none → H' m = some (.lst (ws.map V.str)) → (∀ w ∈ ws, IsRow w) → (ws.map fun w => w.cps.toList).Pairwise (· < ·) → (∀ x, x ∈ (ws.map fun w => w.cps.toList) ↔ x.Sublist z.cps.toList) → Q (.ref m) H'
end L2
set_option Elab.async false
set_option linter.all false
set_option maxRecDepth 100000
set_option maxHeartbeats 1600000
namespace L2
open PySem
def ab : List Nat := List.range' 97 26
def AB (xs : List Nat) : Prop := ∀ c ∈ xs, 97 ≤ c ∧ c ≤ 122
theorem mem_ab {c : Nat} : c ∈ ab ↔ 97 ≤ c ∧ c ≤ 122 := by
  unfold ab
  rw [List.mem_range'_1]
  omega
theorem ab_rise : ab.Pairwise (· < ·) := by unfold ab; exact List.pairwise_lt_range'
def af (c : Nat) (xs : List Nat) : List Nat := (aft c xs).getD []
theorem aft_af {c : Nat} {xs : List Nat} (h : c ∈ xs) : aft c xs = some (af c xs) := by
  unfold af
  cases e : aft c xs with
  | none => exact absurd h (aft_none.mp e)
  | some r => rfl
theorem af_sub {c : Nat} {xs : List Nat} : ∀ y ∈ af c xs, y ∈ xs := fun y hy => by
  by_cases h : c ∈ xs
  · exact aft_sub (aft_af h) y hy
  · unfold af at hy
    rw [aft_none.mpr h] at hy
    cases hy
theorem AB.af {xs : List Nat} (h : AB xs) (c : Nat) : AB (af c xs) := fun y hy => h y (af_sub y hy)
theorem cons_af {c : Nat} {v xs : List Nat} : (c :: v).Sublist xs ↔ c ∈ xs ∧ v.Sublist (af c xs) := by
  by_cases h : c ∈ xs
  · rw [cons_aft (aft_af h)]
    exact ⟨fun a => ⟨h, a⟩, fun a => a.2⟩
  · exact ⟨fun a => absurd (a.subset List.mem_cons_self) h, fun a => absurd a.1 h⟩
/-- the letters that both may go on with, rising -/
def bo (xs ys : List Nat) : List Nat := ab.filter fun c => decide (c ∈ xs) && decide (c ∈ ys)
theorem mem_bo {xs ys : List Nat} (h : AB xs) {c : Nat} : c ∈ bo xs ys ↔ c ∈ xs ∧ c ∈ ys := by
  unfold bo
  rw [List.mem_filter, mem_ab, Bool.and_eq_true, decide_eq_true_eq, decide_eq_true_eq]
  exact ⟨fun a => a.2, fun a => ⟨h c a.1, a⟩⟩
theorem bo_mem {xs ys : List Nat} {c : Nat} (h : c ∈ bo xs ys) : c ∈ xs ∧ c ∈ ys := by
  unfold bo at h
  have := (List.mem_filter.mp h).2
  rw [Bool.and_eq_true, decide_eq_true_eq, decide_eq_true_eq] at this
  exact this
theorem bo_rise (xs ys : List Nat) : (bo xs ys).Pairwise (· < ·) := ab_rise.filter _
/-- rising lists of the same members are alike -/
theorem rise_eq : ∀ {l m : List Nat}, l.Pairwise (· < ·) → m.Pairwise (· < ·) → (∀ c, c ∈ l ↔ c ∈ m) → l = m
  | [], [], _, _, _ => rfl
  | [], b :: m, _, _, h => absurd ((h b).mpr List.mem_cons_self) (by simp)
  | a :: l, [], _, _, h => absurd ((h a).mp List.mem_cons_self) (by simp)
  | a :: l, b :: m, hl, hm, h => by
    have h1 := List.pairwise_cons.mp hl
    have h2 := List.pairwise_cons.mp hm
    have e : a = b := by
      rcases List.mem_cons.mp ((h a).mp List.mem_cons_self) with e | e
      · exact e
      rcases List.mem_cons.mp ((h b).mpr List.mem_cons_self) with e' | e'
      · exact e'.symm
      · have := h1.1 b e'
        have := h2.1 a e
        omega
    subst e
    rw [rise_eq h1.2 h2.2 fun c => ?_]
    have hc := h c
    rw [List.mem_cons, List.mem_cons] at hc
    constructor
    · intro hm1
      rcases hc.mp (.inr hm1) with e | e
      · have := h1.1 c hm1; omega
      · exact e
    · intro hm1
      rcases hc.mpr (.inr hm1) with e | e
      · have := h2.1 c hm1; omega
      · exact e
/-- the program's letters: those of both whole rows -/
theorem bo_of {ds xs ys : List Nat} (hd : ds.Pairwise (· < ·)) (hin : ∀ c, c ∈ xs → c ∈ ys → c ∈ ds) (h : AB xs) : ds.filter (fun c => decide (c ∈ xs) && decide (c ∈ ys)) = bo xs ys := by
  refine rise_eq (hd.filter _) (bo_rise xs ys) fun c => ?_
  rw [mem_bo h, List.mem_filter, Bool.and_eq_true, decide_eq_true_eq, decide_eq_true_eq]
  exact ⟨fun a => a.2, fun a => ⟨hin c a.1 a.2, a⟩⟩
def cwF : Nat → List Nat → List Nat → List (List Nat)
  | 0, _, _ => []
  | n + 1, xs, ys => [] :: (bo xs ys).flatMap fun c => (cwF n (af c xs) (af c ys)).map (c :: ·)
def cw (xs ys : List Nat) : List (List Nat) := cwF (xs.length + 1) xs ys
/-- how many -/
def cm (xs ys : List Nat) : Int := ((cw xs ys).length : Int)
/-- v is at least as good as w: longer, or as long and no later -/
def Bt (v w : List Nat) : Prop := w.length < v.length ∨ (w.length = v.length ∧ (v = w ∨ v < w))
theorem Bt.refl (v : List Nat) : Bt v v := .inr ⟨rfl, .inl rfl⟩
theorem Bt.anti {v w : List Nat} (h : Bt v w) (h' : Bt w v) : v = w := by
  rcases h with h | ⟨e, h⟩
  · rcases h' with h' | ⟨e', _⟩ <;> omega
  · rcases h' with h' | ⟨e', h'⟩
    · omega
    · rcases h with h | h
      · exact h
      rcases h' with h' | h'
      · exact h'.symm
      · exact absurd h' (List.lt_asymm h)
theorem Bt.trans {u v w : List Nat} (h : Bt u v) (h' : Bt v w) : Bt u w := by
  rcases h with h | ⟨e, h⟩
  · rcases h' with h' | ⟨e', _⟩
    · exact .inl (by omega)
    · exact .inl (by omega)
  · rcases h' with h' | ⟨e', h'⟩
    · exact .inl (by omega)
    · refine .inr ⟨by omega, ?_⟩
      rcases h with rfl | h
      · exact h'
      rcases h' with rfl | h'
      · exact .inr h
      · exact .inr (List.lt_trans h h')
theorem lt_tri (a b : List Nat) : a = b ∨ a < b ∨ b < a := by
  by_cases h : a < b
  · exact .inr (.inl h)
  by_cases h' : b < a
  · exact .inr (.inr h')
  · exact .inl (List.le_antisymm (List.not_lt.mp h') (List.not_lt.mp h))
theorem Bt.total (v w : List Nat) : Bt v w ∨ Bt w v := by
  by_cases h : w.length < v.length
  · exact .inl (.inl h)
  by_cases h' : v.length < w.length
  · exact .inr (.inl h')
  have e : w.length = v.length := by omega
  rcases lt_tri v w with h | h | h
  · exact .inl (.inr ⟨e, .inl h⟩)
  · exact .inl (.inr ⟨e, .inr h⟩)
  · exact .inr (.inr ⟨e.symm, .inr h⟩)
instance (v w : List Nat) : Decidable (Bt v w) := by unfold Bt; exact inferInstance
def best (l : List (List Nat)) : List Nat := (l.find? fun z => l.all fun y => decide (Bt z y)).getD []
def lg (xs ys : List Nat) : List Nat := best (cw xs ys)
theorem Bt.cons {v w : List Nat} (c : Nat) (h : Bt v w) : Bt (c :: v) (c :: w) := by
  rcases h with h | ⟨e, h⟩
  · exact .inl (Nat.succ_lt_succ h)
  · refine .inr ⟨by simp [e], ?_⟩
    rcases h with h | h
    · exact .inl (by rw [h])
    · exact .inr (List.Lex.cons h)
def ml (xs ys : List Nat) : Int := (((cw xs ys).filter fun w => decide (w.length = (lg xs ys).length)).length : Int)
/-- v is at least as good as w: shorter, or as short and no later -/
def Sh (v w : List Nat) : Prop := v.length < w.length ∨ (v.length = w.length ∧ (v = w ∨ v < w))
theorem Sh.anti {v w : List Nat} (h : Sh v w) (h' : Sh w v) : v = w := by
  rcases h with h | ⟨e, h⟩
  · rcases h' with h' | ⟨e', _⟩ <;> omega
  · rcases h' with h' | ⟨e', h'⟩
    · omega
    · rcases h with h | h
      · exact h
      rcases h' with h' | h'
      · exact h'.symm
      · exact absurd h' (List.lt_asymm h)
theorem Sh.refl (v : List Nat) : Sh v v := .inr ⟨rfl, .inl rfl⟩
theorem Sh.trans {u v w : List Nat} (h : Sh u v) (h' : Sh v w) : Sh u w := by
  rcases h with h | ⟨e, h⟩
  · rcases h' with h' | ⟨e', _⟩
    · exact .inl (by omega)
    · exact .inl (by omega)
  · rcases h' with h' | ⟨e', h'⟩
    · exact .inl (by omega)
    · refine .inr ⟨by omega, ?_⟩
      rcases h with rfl | h
      · exact h'
      rcases h' with rfl | h'
      · exact .inr h
      · exact .inr (List.lt_trans h h')
theorem Sh.cons {v w : List Nat} (c : Nat) (h : Sh v w) : Sh (c :: v) (c :: w) := by
  rcases h with h | ⟨e, h⟩
  · exact .inl (Nat.succ_lt_succ h)
  · refine .inr ⟨by simp [e], ?_⟩
    rcases h with h | h
    · exact .inl (by rw [h])
    · exact .inr (List.Lex.cons h)
/-- what the two rows tell: none, or the first of the shortest that are left of the one alone -/
def IsPt (xs ys : List Nat) : Option (List Nat) → Prop
  | none => xs.Sublist ys
  | some w => (w.Sublist xs ∧ ¬ w.Sublist ys) ∧ ∀ v : List Nat, v.Sublist xs → ¬ v.Sublist ys → Sh w v
theorem IsPt.uniq {xs ys : List Nat} {o p : Option (List Nat)} (h : IsPt xs ys o) (h' : IsPt xs ys p) : o = p := by
  cases o with
  | none =>
    cases p with
    | none => rfl
    | some w => exact absurd (h'.1.1.trans h) h'.1.2
  | some w =>
    cases p with
    | none => exact absurd (h.1.1.trans h') h.1.2
    | some v => rw [(h.2 v h'.1.1 h'.1.2).anti (h'.2 w h.1.1 h.1.2)]
theorem pt_alone {xs ys : List Nat} {c : Nat} (hc : c ∈ xs) (hn : c ∉ ys) (h : ∀ d ∈ xs, d ∉ ys → c ≤ d) : IsPt xs ys (some [c]) := by
  refine ⟨⟨List.singleton_sublist.mpr hc, fun z => hn (List.singleton_sublist.mp z)⟩, fun v h1 h2 => ?_⟩
  cases v with
  | nil => exact absurd (List.nil_sublist _) h2
  | cons d v =>
    cases v with
    | nil =>
      have hd : d ∈ xs := List.singleton_sublist.mp h1
      have hd2 : d ∉ ys := fun z => h2 (List.singleton_sublist.mpr z)
      have := h d hd hd2
      refine .inr ⟨rfl, ?_⟩
      rcases Nat.lt_or_ge c d with h' | h'
      · exact .inr (List.Lex.rel h')
      · obtain rfl : c = d := by omega
        exact .inl rfl
    | cons e v => exact .inl (by simp)
theorem pt_none {xs ys : List Nat} (hin : ∀ c ∈ xs, c ∈ ys) (h : ∀ c ∈ xs, IsPt (af c xs) (af c ys) none) : IsPt xs ys none := by
  cases xs with
  | nil => exact List.nil_sublist _
  | cons c xs =>
    have h1 := h c List.mem_cons_self
    have e : af c (c :: xs) = xs := by
      unfold af
      rw [aft_cons, if_pos rfl]; rfl
    rw [e] at h1
    exact cons_af.mpr ⟨hin c List.mem_cons_self, h1⟩
theorem pt_some {xs ys : List Nat} (hin : ∀ c ∈ xs, c ∈ ys) (f : Nat → Option (List Nat)) (hf : ∀ c ∈ xs, IsPt (af c xs) (af c ys) (f c)) {c : Nat} {w : List Nat} (hc : c ∈ xs) (hw : f c = some w)
    (h : ∀ d ∈ xs, ∀ v, f d = some v → w.length < v.length ∨ (w.length = v.length ∧ c ≤ d)) : IsPt xs ys (some (c :: w)) := by
  have h0 := hf c hc
  rw [hw] at h0
  refine ⟨⟨cons_af.mpr ⟨hc, h0.1.1⟩, fun z => h0.1.2 (cons_af.mp z).2⟩, fun v h1 h2 => ?_⟩
  cases v with
  | nil => exact absurd (List.nil_sublist _) h2
  | cons d v =>
    have hd := (cons_af.mp h1).1
    have g1 := (cons_af.mp h1).2
    have g2 : ¬ v.Sublist (af d ys) := fun z => h2 (cons_af.mpr ⟨hin d hd, z⟩)
    have h3 := hf d hd
    cases e : f d with
    | none =>
      rw [e] at h3
      exact absurd (g1.trans h3) g2
    | some u =>
      rw [e] at h3
      have h4 : Sh (d :: u) (d :: v) := (h3.2 v g1 g2).cons d
      refine Sh.trans ?_ h4
      rcases h d hd u e with h | ⟨e', h⟩
      · exact .inl (Nat.succ_lt_succ h)
      · refine .inr ⟨by simp [e'], ?_⟩
        rcases Nat.lt_or_ge c d with h' | h'
        · exact .inr (List.Lex.rel h')
        · obtain rfl : c = d := by omega
          rw [hw] at e
          cases e
          exact .inl rfl
end L2
set_option Elab.async false
set_option linter.all false
namespace L2
open PySem
def cN (ls : List Nat) : Nat → List Nat → Nat
  | 0, _ => 0
  | n + 1, xs => (ls.map fun c => match aft c xs with | none => ls.length ^ n | some r => cN ls n r).sum
end L2
set_option Elab.async false
set_option linter.all false
set_option maxRecDepth 100000
namespace L2
open PySem PySem.Spec PyProof.Rows
def rMaxS : List V → Hp → VK → Prop := fun vs H Q => ∃ z : Str, vs = [.str z] ∧ 0 < z.cps.toList.length ∧ ∀ c, c ∈ z.cps.toList → (∀ x ∈ z.cps.toList, x ≤ c) → Q (.str (sg c)) H
end L2
set_option Elab.async false
set_option linter.all false
set_option maxRecDepth 100000
namespace L2
open PySem PySem.Spec PyProof.Rows
theorem best_text (f : Nat → List Nat) : ∀ k, argBest (fun i j => decide (f i < f j)) k ≤ k ∧ ∀ j, j ≤ k → ¬ f j < f (argBest (fun i j => decide (f i < f j)) k)
  | 0 => ⟨Nat.le_refl _, fun j hj => by
      obtain rfl : j = 0 := by omega
      exact List.lt_irrefl _⟩
  | k + 1 => by
    obtain ⟨h1, h2⟩ := best_text f k
    unfold argBest
    by_cases c : f (k + 1) < f (argBest (fun i j => decide (f i < f j)) k)
    · rw [if_pos (decide_eq_true c)]
      refine ⟨Nat.le_refl _, fun j hj => ?_⟩
      by_cases hk : j = k + 1
      · rw [hk]; exact List.lt_irrefl _
      · exact fun h => h2 j (by omega) (List.lt_trans h c)
    · rw [if_neg (fun h => c (of_decide_eq_true h))]
      refine ⟨by omega, fun j hj => ?_⟩
      by_cases hk : j = k + 1
      · rw [hk]; exact c
      · exact h2 j (by omega)
/-- the codes of the text at a place -/
def codesAt (zs : List Str) (i : Nat) : List Nat := (zs.getD i ⟨#[]⟩).cps.toList
theorem codesAt_of {zs : List Str} {i : Nat} {z : Str} (h : zs[i]? = some z) : codesAt zs i = z.cps.toList := by unfold codesAt; rw [List.getD_eq_getElem?_getD, h]; rfl
theorem text_at {us : List Value} {zs : List Str} (h : Vals (zs.map V.str) us) {i : Nat} {v : Value} (hv : us.toArray[i]? = some v) : ∃ (z : Str) (t : Tok), zs[i]? = some z ∧ v = .str z t := by
  have hv' : us[i]? = some v := by simpa using hv
  clear hv
  induction zs generalizing us i with
  | nil => cases h; simp at hv'
  | cons z zs ih =>
    cases h with
    | cons hx ht =>
      obtain ⟨t, rfl⟩ := hx
      cases i with
      | zero =>
        simp at hv'
        exact ⟨z, t, rfl, hv'.symm⟩
      | succ i =>
        simp at hv'
        obtain ⟨y, t', h1, h2⟩ := ih ht hv'
        exact ⟨y, t', by simpa using h1, h2⟩
theorem cmp_texts {prog : Program} {w : World} {A : Around} {us : List Value} {zs : List Str} (h : Vals (zs.map V.str) us) : CmpOf prog w A .Lt (fun i v => us.toArray[i]? = some v) (fun i j => decide (codesAt zs i < codesAt zs j)) := by
  intro i j vi vj s Q E hi hj hq
  obtain ⟨x, t, hx, rfl⟩ := text_at h hi
  obtain ⟨y, u, hy, rfl⟩ := text_at h hj
  have e1 : codesAt zs i = x.cps.toList := by unfold codesAt; rw [List.getD_eq_getElem?_getD, hx]; rfl
  have e2 : codesAt zs j = y.cps.toList := by unfold codesAt; rw [List.getD_eq_getElem?_getD, hy]; rfl
  have hq : Q (Value.bool (decide (codesAt zs i < codesAt zs j))) s := hq
  rw [e1, e2] at hq
  show wpAny _ _ (compareOp .Lt (.str x t) (.str y u)) _ _ _
  exact PySem.P.lt_str hq
def rMinS (K : PySem.W.Frag) : List V → Hp → VK → Prop := fun vs H Q => ∃ (a : Addr) (zs : List Str), vs = [.ref a] ∧ SqL K H a (zs.map V.str) ∧ 0 < zs.length ∧ ∀ z, z ∈ zs → (∀ y ∈ zs, ¬ y.cps.toList < z.cps.toList) → Q (.str z) H
end L2
set_option Elab.async false
set_option linter.all false
set_option maxRecDepth 100000
namespace L2
open PySem
structure Ent where
  p : Nat
  n : Nat
  r : Addr
abbrev kvE (E : List Ent) : List (Key × V) := E.map fun e => (Sum.inl (e.p : Int), V.ref e.r)
def pot (ls xs : List Nat) (m : Nat) (E : List Ent) : Nat := (E.map fun e => e.n * cN ls m (xs.drop e.p)).sum
end L2
set_option Elab.async false
set_option linter.all false
set_option maxRecDepth 100000
set_option maxHeartbeats 4000000
namespace L2
open PySem PySem.Spec PyProof.Rows
section
variable {prog : Program} {w : World} {A : Around} {E : Value → Shared → Prop} {s : Shared}
theorem meets_items_raw (d : Addr) (hd : (d == sysModules) = false) :
    MeetsIn prog w (Builtin.«dict.items» ⟨[.ref d], []⟩) (fun _ R s => s.TypeIs (.ref d) "dict" ∧
      R (.ok (.ret (.ref s.heap.objs.size))) { s with heap := s.heap.push { cls := .type "dict_items", data := .fields #[.ref d] } }) :=
  .of_wp fun A R s ⟨hT, h⟩ => by
    unfold Builtin.«dict.items»
    refine wpAny_bind ?_
    unfold Builtin.Dict.noArgs
    refine wpAny_bind (wpAny_notOrdered_dict hT ?_)
    show wpAny _ _ (pure d) _ _ s
    refine wpAny_pure ?_
    show wpAny _ _ (Builtin.Dict.showsAll d >>= _) _ _ s
    unfold Builtin.Dict.showsAll
    rw [if_neg (by rw [hd]; exact Bool.false_ne_true)]
    refine wpAny_bind (wpAny_pure ?_)
    exact wpAny_bind (wpAny_newObj_type (wpAny_pure ⟨_, rfl, h⟩))
theorem iter_items_raw {v d : Addr} {o : Obj} {es : Array DictEntry} {ep : Nat} {Q : Value → Shared → Prop} (hv : s.heap.IsItemsView v d) (ho : s.heap.get? d = some o) (hdat : o.data = .dict es ep)
    (hQ : Q (.ref s.heap.objs.size) { s with heap := s.heap.push { cls := .type "dict_itemiterator", data := .fields #[.none, .bool false, .ref d, .int 0 0, .int es.size 0, .int ep 0, .none, .none] } }) :
    wpAny (model prog w) A (pyIter (.ref v)) Q E s := by
  obtain ⟨ov, hov, hcv, hdv⟩ := id hv
  refine wpAny_pyIter_slot hv.typeIs F.slot_dict_items_iter (wpAny_call_entry F.slot_dict_items_iter hv.typeIs F.entry_dict_items_iter ?_ (F.args_dict_items_iter_1 _))
  unfold Builtin.«dict_items.__iter__»
  refine wpAny_bind (wpAny_pure ?_)
  refine wpAny_bind ?_
  unfold Builtin.Dict_items.dictOf
  refine wpAny_bind (wpAny_field hov hdv (x := .ref d) rfl (wpAny_pure ?_))
  refine wpAny_bind ?_
  unfold Builtin.Dict_items.newIterator
  refine wpAny_bind (wpAny_dictEntries ho hdat ?_)
  refine wpAny_bind (wpAny_dictEpoch ho hdat ?_)
  have hown : Builtin.Dict_items.ownsTuple "dict_itemiterator" = true := by decide
  simp only [hown, if_true]
  refine wpAny_newObj_type (wpAny_pure ⟨_, rfl, "dict_itemiterator", _, ⟨_, Heap.get?_push_size _ rfl, rfl⟩, F.slot_dict_itemiterator_next.lookup, ?_⟩)
    (by simp only [sizeOk, Builtin.Dict_items.ownedTupleFields, List.size_toArray, List.length_append, List.length_cons, List.length_nil, sizeLine_eq]; omega)
  simpa [rawInt, Builtin.Dict_items.ownedTupleFields] using hQ
theorem items_item_raw {it d : Addr} {i n ep : Nat} {od : Obj} {es : Array DictEntry} {en : DictEntry} {ok ov : Value} {Q : Option Value → Shared → Prop} (hit : IsItemIter s.heap it d i n ep ok ov)
    (hod : s.heap.get? d = some od) (hdd : od.data = .dict es ep) (hsz : es.size = n) (hx : es[i]? = some en)
    (hQ : ∀ h', IsItemIterOut h' it d (i + 1) n ep en.key en.val s.heap.objs.size →
      h'.get? s.heap.objs.size = some { cls := .type "tuple", data := .seq #[en.key, en.val] } → h'.objs.size = s.heap.objs.size + 1 →
      (∀ b o, b ≠ it → s.heap.get? b = some o → h'.get? b = some o) → Q (some (.ref s.heap.objs.size)) { s with heap := h' }) :
    wpAny (model prog w) A (pyNext (.ref it)) Q E s := by
  obtain ⟨hp, g, dr, tk, os⟩ := s
  have hT : Shared.TypeIs ⟨hp, g, dr, tk, os⟩ (.ref it) "dict_itemiterator" := ⟨_, hit, rfl⟩
  unfold pyNext
  refine wpAny_bind (wpAny_attempt (wpAny_callSpecial?_slot (name := Str.ofString "__next__") hT F.slot_dict_itemiterator_next
    (wpAny_call_entry F.slot_dict_itemiterator_next hT F.entry_dict_itemiterator_next ?_ (F.args_dict_itemiterator_next_1 _))))
  refine wpAny_bind (wpAny_pure ?_)
  refine wpAny_bind ?_
  refine wpAny_bind ?_
  first | refine wpAny_bind (wpAny_typeNameOfWhole_itemiter hT (wpAny_pure ?_)) | refine wpAny_bind (wpAny_typeNameOf_itemiter hT (wpAny_pure ?_))
  refine wpAny_bind (wpAny_fieldsOf hit rfl ?_)
  have hown : Builtin.Dict_items.ownsTuple "dict_itemiterator" = true := by decide
  simp only [hown, if_true]
  show wpAny _ _ (if (Value.ref d == Value.none) = true then _ else _) _ _ _
  rw [if_neg (show ¬ ((Value.ref d == Value.none) = true) from Bool.false_ne_true)]
  refine wpAny_bind (wpAny_pure ?_)
  refine wpAny_bind (wpAny_dictEntries hod hdd ?_)
  rw [if_neg (by rw [hsz]; simp)]
  refine wpAny_bind (wpAny_pure ?_)
  refine wpAny_bind (wpAny_dictEpoch hod hdd ?_)
  rw [if_neg (by simp)]
  refine wpAny_pure ?_
  obtain ⟨hlt', hen⟩ := Array.getElem?_eq_some_iff.mp hx
  simp only [show ¬ ((i : Int) < 0) from by omega, if_false, Int.toNat_natCast, Array.getElem?_eq_getElem hlt']
  rw [hen]
  refine wpAny_bind ?_
  first | refine wpAny_bind (wpAny_typeNameOfWhole_itemiter hT (wpAny_pure ?_)) | refine wpAny_bind (wpAny_typeNameOf_itemiter hT (wpAny_pure ?_))
  refine wpAny_bind (wpAny_isOneOf_itemiter hT ?_)
  show wpAny _ _ (setField (.ref it) 3 (rawInt ((i : Int) + 1)) >>= _) _ _ ⟨hp, g, dr, tk, os⟩
  refine wpAny_bind (wpAny_setField_rec hit (by simp) fun h₁ he₁ hs₁ => ?_)
  replace hs₁ : Heap.SameBut it hp h₁ := hs₁
  replace he₁ : IsItemIter h₁ it d (i + 1) n ep ok ov := by
    have e : ((i + 1 : Nat) : Int) = (i : Int) + 1 := by omega
    unfold IsItemIter; rw [e]; simpa [rawInt] using he₁
  have hT₁ : Shared.TypeIs ⟨h₁, g, dr, tk, os⟩ (.ref it) "dict_itemiterator" := ⟨_, he₁, rfl⟩
  refine wpAny_bind (wpAny_holding ?_)
  refine wpAny_bind (wpAny_isOneOf_itemiter hT₁ ?_)
  refine wpAny_bind (wpAny_isOneOf_itemiter hT₁ ?_)
  show wpAny _ _ (Builtin.Dict_items.pairFromOwner (.ref it) 6 en.key en.val) _ _ ⟨h₁, g, dr, tk, os⟩
  unfold Builtin.Dict_items.pairFromOwner
  refine wpAny_bind (wpAny_newTuple ?_)
  have he₂ : IsItemIter (h₁.push { cls := .type "tuple", data := .seq #[en.key, en.val] }) it d (i + 1) n ep ok ov := Heap.get?_push_of_some _ he₁
  generalize hh₂ : h₁.push { cls := .type "tuple", data := .seq #[en.key, en.val] } = h₂ at he₂
  have hz₁ : h₁.objs.size = hp.objs.size := hs₁.1
  have hil : it < hp.objs.size := Heap.lt_size hit
  have ht₂ : h₂.get? hp.objs.size = some { cls := .type "tuple", data := .seq #[en.key, en.val] } := by rw [← hh₂, ← hz₁]; exact Heap.get?_push_size _ rfl
  have hz₂ : h₂.objs.size = hp.objs.size + 1 := by rw [← hh₂, Heap.size_push, hz₁]
  have hk₂ : ∀ b o, b ≠ it → hp.get? b = some o → h₂.get? b = some o := fun b o hb e => by rw [← hh₂]; exact Heap.get?_push_of_some _ (hs₁.extBut b o hb e)
  show wpAny _ _ (Builtin.Dict_items.ownedTupleIsFree (.ref it) >>= _) _ _ ⟨h₂, g, dr, tk, os⟩
  rw [hz₁]
  clear hh₂ he₁ hs₁ hT₁ hz₁ h₁
  refine wpAny_bind ?_
  unfold Builtin.Dict_items.ownedTupleIsFree
  refine wpAny_bind (wpAny_field he₂ rfl (x := .none) rfl (wpAny_pure ?_))
  simp only [if_true]
  refine wpAny_bind (wpAny_field he₂ rfl (x := ok) rfl ?_)
  refine wpAny_bind (wpAny_field he₂ rfl (x := ov) rfl ?_)
  refine wpAny_bind (wpAny_setField_rec he₂ (by simp) fun h₃ he₃ hs₃ => ?_)
  replace hs₃ : Heap.SameBut it h₂ h₃ := hs₃
  replace he₃ : IsItemIter h₃ it d (i + 1) n ep en.key ov := he₃
  refine wpAny_bind (wpAny_setField_rec he₃ (by simp) fun h₄ he₄ hs₄ => ?_)
  replace hs₄ : Heap.SameBut it h₃ h₄ := hs₄
  replace he₄ : IsItemIter h₄ it d (i + 1) n ep en.key en.val := he₄
  refine wpAny_bind (wpAny_setField_rec he₄ (by simp) fun h₅ he₅ hs₅ => ?_)
  replace hs₅ : Heap.SameBut it h₄ h₅ := hs₅
  replace he₅ : IsItemIterOut h₅ it d (i + 1) n ep en.key en.val hp.objs.size := he₅
  refine wpAny_bind (wpAny_setField_rec he₅ (by simp) fun h₆ he₆ hs₆ => ?_)
  replace hs₆ : Heap.SameBut it h₅ h₆ := hs₆
  replace he₆ : IsItemIterOut h₆ it d (i + 1) n ep en.key en.val hp.objs.size := he₆
  refine wpAny_bind (wpAny_letGo (wpAny_pure (wpAny_pure ⟨_, rfl, wpAny_pure (hQ h₆ he₆ ?_ ?_ ?_)⟩)))
  · exact hs₆.extBut _ _ (Nat.ne_of_gt hil) (hs₅.extBut _ _ (Nat.ne_of_gt hil) (hs₄.extBut _ _ (Nat.ne_of_gt hil) (hs₃.extBut _ _ (Nat.ne_of_gt hil) ht₂)))
  · show h₆.objs.size = hp.objs.size + 1
    rw [hs₆.1, hs₅.1, hs₄.1, hs₃.1, hz₂]
  · exact fun b o hb e => hs₆.extBut b o hb (hs₅.extBut b o hb (hs₄.extBut b o hb (hs₃.extBut b o hb (hk₂ b o hb e))))
theorem items_end_raw {it d : Addr} {i n ep : Nat} {od : Obj} {es : Array DictEntry} {ok ov : Value} {Q : Option Value → Shared → Prop} (hh : A.handled = none) (hit : IsItemIter s.heap it d i n ep ok ov)
    (hod : s.heap.get? d = some od) (hdd : od.data = .dict es ep) (hsz : es.size = n) (hge : n ≤ i)
    (hQ : ∀ h', Heap.ExtBut it s.heap h' → Q none { s with heap := h' }) : wpAny (model prog w) A (pyNext (.ref it)) Q E s := by
  have hT : s.TypeIs (.ref it) "dict_itemiterator" := ⟨_, hit, rfl⟩
  unfold pyNext
  refine wpAny_bind (wpAny_attempt (wpAny_callSpecial?_slot (name := Str.ofString "__next__") hT F.slot_dict_itemiterator_next
    (wpAny_call_entry F.slot_dict_itemiterator_next hT F.entry_dict_itemiterator_next ?_ (F.args_dict_itemiterator_next_1 _))))
  refine wpAny_bind (wpAny_pure ?_)
  refine wpAny_bind ?_
  refine wpAny_bind ?_
  first | refine wpAny_bind (wpAny_typeNameOfWhole_itemiter hT (wpAny_pure ?_)) | refine wpAny_bind (wpAny_typeNameOf_itemiter hT (wpAny_pure ?_))
  refine wpAny_bind (wpAny_fieldsOf hit rfl ?_)
  have hown : Builtin.Dict_items.ownsTuple "dict_itemiterator" = true := by decide
  simp only [hown, if_true]
  show wpAny _ _ (if (Value.ref d == Value.none) = true then _ else _) _ _ s
  rw [if_neg (show ¬ ((Value.ref d == Value.none) = true) from Bool.false_ne_true)]
  refine wpAny_bind (wpAny_pure ?_)
  refine wpAny_bind (wpAny_dictEntries hod hdd ?_)
  rw [if_neg (by rw [hsz]; simp)]
  refine wpAny_bind (wpAny_pure ?_)
  refine wpAny_bind (wpAny_dictEpoch hod hdd ?_)
  rw [if_neg (by simp)]
  refine wpAny_pure ?_
  have hge : es.size ≤ i := by rw [hsz]; exact hge
  simp only [show ¬ ((i : Int) < 0) from by omega, if_false, Int.toNat_natCast, Array.getElem?_eq_none hge]
  refine wpAny_bind ?_
  first | refine wpAny_bind (wpAny_typeNameOfWhole_itemiter hT (wpAny_pure ?_)) | refine wpAny_bind (wpAny_typeNameOf_itemiter hT (wpAny_pure ?_))
  show wpAny _ _ (setField (.ref it) 2 .none >>= _) _ _ s
  refine wpAny_bind (wpAny_setField hit rfl (by simp) ?_)
  show wpAny _ _ (newExc (.type "StopIteration") [] >>= _) _ _ _
  refine wpAny_bind ?_
  simp only [newExc, newTuple]
  refine wpAny_bind (wpAny_newObj_type ?_ (by size_fits))
  refine wpAny_bind (m := firstArgMember _ _) (wpAny_of_eq (a := Value.none) (by first | rfl | (simp only [firstArgMember]; rfl)) ?_)
  refine wpAny_newObj_type ?_ (by size_fits)
  simp only [raiseNew]
  refine wpAny_bind (wpAny_handled ?_)
  rw [show A.in1.handled = none from hh]
  refine wpAny_bind (wpAny_pure (wpAny_throw ?_))
  refine wpAny_bind (wpAny_isInstance (T := "StopIteration") (b := true) ⟨_, Heap.get?_push_size _ rfl, rfl⟩ isSubtype_stop ?_)
  exact wpAny_pure (hQ _ (((Heap.SameBut.update ..).extBut.push _).push _))
end
section
variable {X : Cx} {pins : List (Addr × Obj)} {σ : St} {H : Hp} {s : Shared} {d : Addr} {o : Obj}
theorem Inv.frzTV {kvs : List (List Key × V)} (I : Inv X pins σ H s) (h : H d = some (.frz o (.dT kvs))) :
    (d == sysModules) = false ∧ s.heap.get? d = some o ∧ o.ExactDict ∧ ∃ (es : Array DictEntry) (ep : Nat), o.data = .dict es ep ∧ es.size = kvs.length ∧
      ∀ (i : Nat) (k : List Key) (v : V), kvs[i]? = some (k, v) → ∃ (en : DictEntry) (q : Addr), es[i]? = some en ∧ en.key = .ref q ∧ H q = some (.tup (k.map kV)) ∧ RelV v en.val := by
  obtain ⟨hd, z, hs, xs, pr, o', es, ep, ho, hx, hdt, he, _⟩ := I.hok d _ h
  rw [hd] at ho
  cases ho
  refine ⟨hs, hd, hx, es, ep, hdt, ?_, fun i k v e => ?_⟩
  · have l1 : es.size = xs.length := size_of_entries he
    have l2 : kvs.length = xs.length := Paired.length pr
    omega
  · obtain ⟨b, hb, e1, e2, e3⟩ := paired_get pr e
    have q := entry_at he i
    rw [hb] at q
    exact ⟨_, b.2.1, q, rfl, e2, e3⟩
/-- a dict of tuple keys is known from here on -/
theorem Inv.freezeT {kvs : List (List Key × V)} (I : Inv X pins σ H s) (h : H d = some (.dT kvs)) : ∃ o, Inv X pins σ (upd H d (.frz o (.dT kvs))) s := by
  obtain ⟨z, y, xs, r, o, es, ep, e, c⟩ := id (I.hok d _ h)
  refine ⟨o, ?_⟩
  have ht : ∀ b ys, H b = some (.tup ys) → upd H d (.frz o (.dT kvs)) b = some (.tup ys) := fun b ys q => by
    rw [upd_ne (fun z => by rw [z, h] at q; cases q)]; exact q
  exact I.write (t' := s.toks) (h' := s.heap) (by rw [h]; trivial) (.inl rfl) (fun b u _ q => q) ⟨o, e⟩ ⟨e, z, y, xs, Paired.mapP r fun p q w => ⟨w.1, ht _ _ w.2.1, w.2.2⟩, o, es, ep, e, c⟩
end
/-- the pairs, each a new tuple of the key's own tuple and the value -/
def ItiT (d : Addr) (o : Obj) (kvs : List (List Key × V)) : It :=
  ⟨fun i H => H d = some (.frz o (.dT kvs)) ∧ i < kvs.length, fun i H x H' => ∃ T k v q, kvs[i]? = some (k, v) ∧ H q = some (.tup (k.map kV)) ∧ x = .ref T ∧ H T = none ∧ H' = upd H T (.tup [.ref q, v]), fun i H => H d = some (.frz o (.dT kvs)) ∧ kvs.length ≤ i⟩
section
variable {P : Program} {w : World} {K : PySem.W.Frag} {tg : Expr} {d : Addr} {o : Obj} {es : Array DictEntry} {ep : Nat}
theorem turn_itemsT {kvs : List (List Key × V)} {elts : List Expr} {kk : Nat} {tpos : Pos} (it : Addr) (hod : o.data = .dict es ep) :
    Turn P w K (.Tuple elts kk tpos) (ItiT d o kvs) [it] it (fun i h => ∃ ok ov, IsItemIter h it d i kvs.length ep ok ov) where
  mem := by simp
  obj := fun i h st b hb => by
    have e : b = it := by simpa using hb
    subst e
    obtain ⟨ok, ov, e⟩ := st
    exact ⟨_, e, fun v z => nomatch z⟩
  keep := fun i h h' st k => let ⟨ok, ov, e⟩ := st; ⟨ok, ov, k it (by simp) _ e⟩
  item := by
    intro X hP hw hK hc i pins s σ H E I hf st hg
    subst hP hw hK
    obtain ⟨hd, hi⟩ := hg
    obtain ⟨hs, hgd, hx, es', ep', hdt, hsz, ent⟩ := I.frzTV hd
    obtain ⟨rfl, rfl⟩ := dict_ep hod hdt
    obtain ⟨⟨k, v⟩, hkv⟩ : ∃ p, kvs[i]? = some p := ⟨kvs[i], List.getElem?_eq_getElem hi⟩
    obtain ⟨en, q, hen, hkey, hq, rv⟩ := ent i k v hkv
    obtain ⟨ok, ov, he⟩ := st
    have hlt : it < s.heap.objs.size := Heap.lt_size he
    refine items_item_raw he hgd hdt hsz hen fun h' ho hT hz hk => ?_
    refine ⟨_, rfl, wpAny_letOwnedTupleGo_items (s := { s with heap := h' }) ho fun h'' he' sb => ?_⟩
    have hT2 : h''.get? s.heap.objs.size = some { cls := .type "tuple", data := .seq #[en.key, en.val] } := (sb.2 _ (Nat.ne_of_gt hlt)).trans hT
    have new : ObjOk X.prog X.w (upd H s.heap.objs.size (.tup [.ref q, v])) h'' s.heap.objs.size (.tup [.ref q, v]) :=
      ⟨by show 2 ≤ sizeLine; decide, [en.key, en.val], .cons hkey (.cons rv .nil), ⟨_, hT2, rfl, _, rfl⟩⟩
    have I1 : Inv X pins σ (upd H s.heap.objs.size (.tup [.ref q, v])) { s with heap := h'' } :=
      I.turnedNew (t' := s.toks) (ch := [it]) (fun b ob hb e => (sb.2 b (by simpa using hb)).trans (hk b ob (by simpa using hb) e)) hf (Nat.le_refl _) new
    refine ⟨.ref s.heap.objs.size, _, I1, rfl, ⟨_, k, v, q, hkv, hq, rfl, I.hok.fresh (Nat.le_refl _), rfl⟩, ⟨en.key, en.val, ?_⟩, fun b hb => ?_⟩
    · exact he'
    · have e : b = it := by simpa using hb
      rw [e, upd_ne (Nat.ne_of_lt hlt)]
      exact (hf it (by simp)).1
  done := by
    intro X hP hw hK hc i pins s σ H E I hf st hg
    subst hP hw hK
    obtain ⟨hd, hi⟩ := hg
    obtain ⟨f0, f1, f2, f3, f4, f5⟩ := hf it (by simp)
    obtain ⟨hs, hgd, hx, es', ep', hdt, hsz, ent⟩ := I.frzTV hd
    obtain ⟨rfl, rfl⟩ := dict_ep hod hdt
    obtain ⟨ok, ov, he⟩ := st
    exact items_end_raw (I.ok.hd hc) he hgd hdt hsz hi fun h' eb => ⟨rfl, I.turned (t' := s.toks) (fun b ob hb e => eb b ob hb e) f0 f1 f3 f4 f5⟩
  self := fun A i s Q E st h => let ⟨_, _, e⟩ := st; PySem.W.kcp_self e h
end
def iItemsT (td : TE) : TI := fun σ H R => td σ H fun x H1 => ∃ d kvs, x = .ref d ∧ H1 d = some (.dT kvs) ∧ ∀ o, R (ItiT d o kvs) (upd H1 d (.frz o (.dT kvs)))
section
variable {X : Cx} {tg e : Expr} {td : TE} {apos cpos : Pos}
theorem pi_itemsT {elts : List Expr} {kk : Nat} {tpos : Pos} (he : PE X e td) (hbase : attributeBase e "items" X.env (eval e X.env) = eval e X.env := by rfl) (hline : (apos.endLine == cpos.line) = true := by rfl) :
    PI X (.Tuple elts kk tpos) (.Call (.Attribute e "items" apos) [] [] cpos) (iItemsT td) := by
  intro pins s σ H R I h
  refine wpAny_Call_method (T := "dict") (id := "dict.items") hbase rfl hline F.plainAttrs_dict F.slot_dict_items F.type_dict_items (thn (he pins s σ H _ I h) fun u s1 ⟨x, H1, I1, rx, d, kvs, ex, hd0, q0⟩ => ?_)
  subst ex
  obtain rfl : u = Value.ref d := rx
  obtain ⟨o, I2⟩ := I1.freezeT hd0
  have q := q0 o
  obtain ⟨hs, hgd, hx, es, ep, hdt, hsz, _⟩ := I2.frzTV (d := d) (o := o) (kvs := kvs) upd_same
  refine ⟨⟨o, hgd, hx.1⟩, fun a ea => ⟨o, by cases ea; exact hgd, hx.2.1⟩, ?_⟩
  have I3 : Inv X pins σ _ { s1 with heap := s1.heap.push { cls := .type "dict_items", data := .fields #[.ref d] } } := I2.kept (t' := s1.toks) fun b ob q => Heap.get?_push_of_some _ q
  have fin : wpAny (model X.prog X.w) X.A (pyIter (.ref s1.heap.objs.size)) (PIE X pins σ (.Tuple elts kk tpos) R) X.xe { s1 with heap := s1.heap.push { cls := .type "dict_items", data := .fields #[.ref d] } } := by
    refine iter_items_raw (d := d) (o := o) (es := es) (ep := ep) ⟨_, Heap.get?_push_size _ rfl, rfl, rfl⟩ (Heap.get?_push_of_some _ hgd) hdt (pi_one (tk := s1.toks) I3 _ (turn_itemsT _ hdt) ⟨.none, .none, ?_⟩ q)
    rw [hsz]
    exact Heap.get?_push_size _ rfl
  show wpAny _ _ (callWith cpos (.builtin "dict.items") [.ref d] [] []) _ X.xe s1
  exact method_meetsIn F.slot_dict_items F.entry_dict_items rfl (PySem.evalArgs_none ⟨rfl, ⟨o, hgd, hx.1⟩, F.args_dict_items_1 _, _, meets_items_raw d hs, ⟨o, hgd, hx.1⟩, fin⟩)
end
/-- the loop over them -/
theorem for_itemsT {d : Addr} {o : Obj} {kvs : List (List Key × V)} {g : TG} {tb : TS} {D : Ends} {σ : St} {H : Hp} (Pv : Nat → St → Hp → Prop) (h0 : Pv 0 σ H) (hl : ∀ i σ H, i ≤ kvs.length → Pv i σ H → H d = some (.frz o (.dT kvs)))
    (hs : ∀ i k v q σ H T, kvs[i]? = some (k, v) → H q = some (.tup (k.map kV)) → Pv i σ H → H T = none → g (.ref T) σ (upd H T (.tup [.ref q, v])) fun σ2 H2 => tb { D with nx := Pv (i + 1), ct := Pv (i + 1), bk := D.nx } σ2 H2) (hd : ∀ σ H, Pv kvs.length σ H → D.nx σ H) :
    ∃ W : Nat → Nat → St → Hp → Prop, (∃ m, W 0 m σ H) ∧ ∀ i m σ H, W i m σ H →
      ((ItiT d o kvs).stop i H ∧ D.nx σ H) ∨ ((ItiT d o kvs).go i H ∧ ∃ N : St → Hp → Prop, (∀ σ' H', N σ' H' → ∃ m', m' < m ∧ W (i + 1) m' σ' H') ∧ ∀ x H', (ItiT d o kvs).yld i H x H' → g x σ H' fun σ2 H2 => tb { D with nx := N, ct := N, bk := D.nx } σ2 H2) := by
  refine ⟨fun i m σ H => m = kvs.length - i ∧ i ≤ kvs.length ∧ Pv i σ H, ⟨_, rfl, Nat.zero_le _, h0⟩, ?_⟩
  rintro i m σ H ⟨rfl, hi, p⟩
  have hq := hl i σ H hi p
  rcases Nat.lt_or_ge i kvs.length with c | c
  · refine .inr ⟨⟨hq, c⟩, Pv (i + 1), fun σ' H' p' => ⟨_, ?_, rfl, c, p'⟩, fun x H' y => ?_⟩
    · omega
    · obtain ⟨T, k, v, q, hk, hqq, rfl, hT, rfl⟩ := y
      exact hs i k v q σ H T hk hqq p hT
  · have e := Nat.le_antisymm hi c
    subst e
    exact .inl ⟨⟨hq, c⟩, hd σ H p⟩
end L2
set_option Elab.async false
set_option linter.all false
set_option maxRecDepth 100000
set_option maxHeartbeats 3200000
namespace L2
open PySem PySem.Spec PyProof.Rows
section
variable {prog : Program} {w : World} {A : Around} {E : Value → Shared → Prop} {s : Shared}
end
def tSortedSetL (K : PySem.W.Frag) (ta : TA) : TE := fun σ H Q => ta σ H fun vs H1 => ∃ (l0 : Addr) (cs : List Nat), vs = [.ref l0] ∧ SqL K H1 l0 ((cs.map sg).map V.str) ∧ cs.length < 3900 ∧ (∀ ds : List Nat, ds.Nodup → (∀ d ∈ ds, d ∈ cs) → ds.length < 64) ∧
  ∀ (l : Addr) (ds : List Nat), H1 l = none → ds.Pairwise (· < ·) → (∀ c, c ∈ ds ↔ c ∈ cs) → Q (.ref l) (upd H1 l (.lst ((ds.map sg).map V.str)))
end L2
set_option Elab.async false
set_option linter.all false
set_option maxRecDepth 100000
set_option maxHeartbeats 3200000
namespace L2
open PySem PySem.Spec PyProof.Rows
section
variable {prog : Program} {w : World} {A : Around} {E : Value → Shared → Prop} {s : Shared}
theorem entry_set_and : entryFor table "set.__and__" = some Builtin.«frozenset.__and__» :=
  entryFor_alias (id' := "frozenset.__and__") (by kernel_rfl) (by first | rfl | decide +kernel | (unfold String.splitOn; simp +decide [String.splitOnAux])) (by decide +kernel) (by kernel_rfl)
theorem SR.state {a : Addr} {es : List (Int × Value)} {led : Bool} {Q : (Array (Int × Value) × Nat × SetTable) → Shared → Prop} (S : SR prog w s.heap a es led)
    (h : ∀ o ea ep t, s.heap.get? a = some o → o.data = .set ea ep t → ea.toList = es → t.fits ea.size = true → t.led = led → (ea.size = 0 ∨ t.plain = false) → Q (ea, ep, t) s) : wpAny (model prog w) A (setState a) Q E s := by
  obtain ⟨o, ea, ep, t, ho, hx, hd, he, hf, hl, hp⟩ := S.ex
  exact wpAny_setState_of ho hd hf (h o ea ep t ho hd he hf hl hp)
theorem SR.entries {a : Addr} {es : List (Int × Value)} {led : Bool} {Q : Array (Int × Value) → Shared → Prop} (S : SR prog w s.heap a es led) (h : ∀ ea, ea.toList = es → Q ea s) : wpAny (model prog w) A (setEntries a) Q E s := by
  unfold setEntries
  exact wpAny_bind (S.state fun o ea ep t _ _ he _ _ _ => wpAny_pure (h ea he))
def AllStr (es : List (Int × Value)) : Prop := ∀ e ∈ es, ∃ x t, e.2 = .str x t
theorem quiet_sets {led : Bool} {sets : List Addr} (hs : ∀ a ∈ sets, ∃ es, SR prog w s.heap a es led ∧ AllStr es) {Q : Bool → Shared → Prop} (h : Q true s) : wpAny (model prog w) A (setsQuiet sets) Q E s := by
  unfold setsQuiet
  refine wpAny_bind ?_
  refine wpAny_forIn_list _ (fun rest r s' => s' = s ∧ r.1 = none ∧ ∀ a ∈ rest, ∃ es, SR prog w s.heap a es led ∧ AllStr es) _ ?_ ?_ _ _ ⟨rfl, rfl, hs⟩
  · rintro a rest r s' ⟨rfl, hr, hall⟩
    obtain ⟨es, hS, hstr⟩ := hall a List.mem_cons_self
    refine wpAny_bind (hS.entries fun ea he => ?_)
    rw [← Array.forIn_toList]
    refine wpAny_bind ?_
    refine wpAny_forIn_list _ (fun rest2 r2 s2 => s2 = s' ∧ r2.1 = none ∧ AllStr rest2) _ ?_ ?_ _ _ ⟨rfl, rfl, by rw [he]; exact hstr⟩
    · rintro ⟨hh, x⟩ rest2 r2 s2 ⟨rfl, hr2, hall2⟩
      obtain ⟨z, t, ez⟩ := hall2 _ List.mem_cons_self
      have ez' : x = .str z t := ez
      subst ez'
      exact wpAny_pure ⟨rfl, rfl, fun e he => hall2 e (List.mem_cons_of_mem _ he)⟩
    · rintro r2 s2 ⟨rfl, hr2, _⟩
      obtain ⟨r21, r22⟩ := r2
      cases hr2
      exact wpAny_pure ⟨rfl, rfl, fun b hb => hall b (List.mem_cons_of_mem _ hb)⟩
  · rintro r s' ⟨rfl, hr, _⟩
    obtain ⟨r1, r2⟩ := r
    cases hr
    exact wpAny_pure h
theorem walk_unseen {a b r : Addr} {es fs : List (Int × Value)} (hA : SR prog w s.heap a es (!w.params.followText "set-order")) (hB : SR prog w s.heap b fs (!w.params.followText "set-order")) (hR : SR prog w s.heap r [] (!w.params.followText "set-order")) (sa : AllStr es) (sb : AllStr fs)
    {Q : Array (Int × Value) → Shared → Prop} (h : ∀ (ws : Array (Int × Value)) (h' : Heap) (d : Drawn), ws.toList.Perm es → Heap.SameBut r s.heap h' → SR prog w h' r [] (!w.params.followText "set-order") → Q ws { s with heap := h', drawn := d }) :
    wpAny (model prog w) A (setWalkUnseen a [b, r] (some r)) Q E s := by
  unfold setWalkUnseen
  refine wpAny_bind (hA.state fun o ea ep t ho hd he hf hl hp => ?_)
  dsimp only
  refine wpAny_bind (byText_ ?_)
  have walked : wpAny (model prog w) A (setWalk a) Q E s ∨ (w.params.followText "set-order" = false ∧ t.plain = false ∧ 1 < ea.size) := by
    cases hb : w.params.followText "set-order" with
    | true =>
      left
      unfold setWalk
      refine wpAny_bind (wpAny_setState_of ho hd hf ?_)
      dsimp only
      refine wpAny_bind (byText_ ?_)
      rw [hb]
      simp only [if_true]
      refine wpAny_bind (wpAny_askSetting (wpAny_pure ?_))
      rw [hb] at hR
      exact h _ s.heap s.drawn (by rw [← he]; exact pick_perm _ _) (Heap.SameBut.refl _ _) (by rw [hb]; exact hR)
    | false =>
      by_cases hsz : 1 < ea.size
      · rcases hp with hp | hp
        · omega
        · exact .inr ⟨rfl, hp, hsz⟩
      · left
        rw [hb] at hl hR
        unfold setWalk
        refine wpAny_bind (wpAny_setState_of ho hd hf ?_)
        dsimp only
        refine wpAny_bind (byText_ ?_)
        rw [hb]
        simp only [Bool.false_eq_true, if_false]
        refine wpAny_ite_split (fun hab => absurd (show (!t.plain && decide (ea.size > 1)) = true from hab) (by simp; omega)) fun _ => ?_
        refine wpAny_bind (show wpAny _ _ (if (!t.led && decide (ea.size > 1)) = true then unsupported "set:maker-not-led" else pure PUnit.unit) _ _ _ from ?_)
        refine wpAny_ite_split (fun hab => absurd hab (by simp; omega)) fun _ => wpAny_pure ?_
        refine wpAny_pure ?_
        exact h _ s.heap s.drawn (by rw [he]) (Heap.SameBut.refl _ _) (by rw [hb]; exact hR)
  refine wpAny_ite_split (fun _ => ?_) (fun hno => ?_)
  · rcases walked with hw | ⟨hb, hpl, hsz⟩
    · exact hw
    · rename_i hc
      rw [hb, hpl] at hc
      simp at hc
      omega
  have hbf : w.params.followText "set-order" = false := by
    cases hb : w.params.followText "set-order" with
    | false => rfl
    | true => exact absurd (by rw [hb]; rfl) hno
  refine wpAny_bind (quiet_sets (led := !w.params.followText "set-order") (fun c hc => ?_) ?_)
  · rcases List.mem_cons.mp hc with rfl | hc
    · exact ⟨es, hA, sa⟩
    rcases List.mem_cons.mp hc with rfl | hc
    · exact ⟨fs, hB, sb⟩
    · rw [List.mem_singleton.mp hc]
      exact ⟨[], hR, fun e he => by simp at he⟩
  refine wpAny_ite_split (fun hab => absurd hab (by decide)) fun _ => ?_
  refine wpAny_bind (wpAny_rule ?_)
  refine wpAny_bind (hR.state fun o2 ea2 ep2 t2 ho2 hd2 he2 hf2 hl2 hp2 => ?_)
  dsimp only
  refine wpAny_ite_split (fun _ => wpAny_bind ?_) (fun _ => ?_)
  · have hz : ea2.size = 0 := by rw [← Array.length_toList, he2]; rfl
    refine wpAny_storeSet_of ho2 hd2 ?_ (by rw [hz]; exact Nat.zero_le _)
    refine wpAny_pure ?_
    obtain ⟨o3, _, _, _, ho3, hx3, _⟩ := hR.ex
    rw [ho2] at ho3
    cases ho3
    have got : (s.heap.update r (Obj.putSet ea2 { t2 with led := t2.led && t.led, plain := t2.plain && t.plain })).get? r = some { o2 with data := .set ea2 (ep2 + 1) { t2 with led := t2.led && t.led, plain := t2.plain && t.plain } } := by
      have := Heap.get?_update_self (Obj.putSet ea2 { t2 with led := t2.led && t.led, plain := t2.plain && t.plain }) ho2 (by rw [putSet_of ea2 _ hd2]; rfl)
      rw [putSet_of ea2 _ hd2] at this; exact this
    exact h _ _ s.drawn (by rw [he]) (Heap.SameBut.update s.heap r _) ⟨⟨_, ea2, _, _, got, hx3, rfl, he2, hf2, by rw [hl2, hl]; exact Bool.and_self _, .inl hz⟩, fun e he => by simp at he, by decide⟩
  · exact wpAny_pure (h _ s.heap s.drawn (by rw [he]) (Heap.SameBut.refl _ _) hR)
theorem any_set {a : Addr} {Q : Bool → Shared → Prop} (hT : s.TypeIs (.ref a) "set") (h : Q true s) : wpAny (model prog w) A (Builtin.Frozenset.isAnySet (.ref a)) Q E s := by
  unfold Builtin.Frozenset.isAnySet
  show wpAny _ _ (isInstance (.ref a) (.type "set") >>= _) _ _ s
  refine wpAny_bind (wpAny_isInstance hT sub_set_self ?_)
  exact wpAny_pure h
theorem SR.typeIs {a : Addr} {es : List (Int × Value)} {led : Bool} (S : SR prog w s.heap a es led) : s.TypeIs (.ref a) "set" := by
  obtain ⟨o, ea, ep, t, ho, hx, _⟩ := S.ex
  exact ⟨o, ho, hx.1⟩
theorem SR.setOf {h : Heap} {a : Addr} {es : List (Int × Value)} {led : Bool} (S : SR prog w h a es led) : h.SetOf (PySem.strKind prog w) a (fun k => decide (∃ e ∈ es, (PySem.strKind prog w).is k e.2 = true)) es.length := by
  obtain ⟨o, ea, ep, t, ho, hx, hd, he, hf, hl, hp⟩ := S.ex
  subst he
  refine ⟨o, ea, ep, t, ho, hx, hd, S.el, fun k => by rw [decide_eq_true_eq], ?_, hf, Array.length_toList.symm⟩
  have := S.bd
  rw [Array.length_toList] at this
  exact Nat.lt_trans this (by decide)
/-- all entries are signs, unlike, just those of cs -/
def Signs (es : List (Int × Value)) (cs : List Nat) : Prop := (∀ e ∈ es, ∃ c t, e.2 = .str (sg c) t) ∧ (es.map (fun e => codeV e.2)).Nodup ∧ ∀ c, c ∈ es.map (fun e => codeV e.2) ↔ c ∈ cs
theorem Signs.str {es : List (Int × Value)} {cs : List Nat} (h : Signs es cs) : AllStr es := fun e he => let ⟨c, t, q⟩ := h.1 e he; ⟨sg c, t, q⟩
theorem isStr_code {c : Nat} {v : Value} {d : Nat} {t : Tok} (ev : v = .str (sg d) t) : (PySem.strKind prog w).is (sg c) v = true ↔ c = codeV v := by
  subst ev
  show Value.isStrOf (sg c) (.str (sg d) t) = true ↔ c = d
  constructor
  · intro h
    obtain ⟨_, q⟩ := Value.isStrOf_shape h
    injection q with q1
    exact (sg_injS q1).symm
  · rintro rfl
    exact strKind_is prog w _ t
/-- the signs of one set that the other has too, put into a third one -/
theorem and_loop {id : String} {W B R : Addr} {es fs : List (Int × Value)} {cs ds : List Nat} {led : Bool} (hB : Signs fs ds) (hRB : B ≠ R) (hRW : W ≠ R) (hW : ∀ e ∈ es, (∃ c t, e.2 = .str (sg c) t) ∧ ∃ k, (PySem.strKind prog w).is k e.2 = true ∧ e.1 = (PySem.strKind prog w).hash k) (hsz : es.length < 3900)
    (hS0 : SR prog w s.heap B fs led) (hW0 : ∃ es0, SR prog w s.heap W es0 led) {was : Nat} (hwas : ∀ (h' : Heap) (tk : Nat) (Q : Unit → Shared → Prop), Heap.SameBut R s.heap h' → Q () { s with heap := h', toks := tk } → wpAny (model prog w) A (Builtin.Frozenset.unchanged id W was) Q E { s with heap := h', toks := tk })
    (hR0 : SR prog w s.heap R [] led) {Q : PUnit → Shared → Prop} (f : (Int × Value) → PUnit → Sem (ForInStep PUnit)) (hf : f = fun x _ => match x with
      | (h, x) => do
        holding [x] do
            if (← setFind B x h).isSome then
              let _ ← setAddHashed R x h
        Builtin.Frozenset.unchanged id W was
        pure (ForInStep.yield PUnit.unit))
    (h : ∀ (h' : Heap) (tk : Nat), Heap.SameBut R s.heap h' → (∃ rs, SR prog w h' R rs led ∧ (∀ e ∈ rs, ∃ c t, e.2 = .str (sg c) t) ∧ (rs.map (fun e => codeV e.2)).Nodup ∧ ∀ c, c ∈ rs.map (fun e => codeV e.2) ↔ (c ∈ es.map (fun e => codeV e.2) ∧ c ∈ ds)) → Q ⟨⟩ { s with heap := h', toks := tk }) :
    wpAny (model prog w) A (forIn es PUnit.unit f) Q E s := by
  subst hf
  refine wpAny_forIn_list _ (fun rest _ s' => ∃ (done : List (Int × Value)) (h' : Heap) (tk : Nat) (rs : List (Int × Value)), es = done ++ rest ∧ s' = { s with heap := h', toks := tk } ∧ Heap.SameBut R s.heap h' ∧ SR prog w h' R rs led ∧ (∀ e ∈ rs, ∃ c t, e.2 = .str (sg c) t) ∧ (rs.map (fun e => codeV e.2)).Nodup ∧ rs.length ≤ done.length ∧
    ∀ c, c ∈ rs.map (fun e => codeV e.2) ↔ (c ∈ done.map (fun e => codeV e.2) ∧ c ∈ ds)) _ ?_ ?_ _ _ ⟨[], s.heap, s.toks, [], rfl, rfl, Heap.SameBut.refl _ _, hR0, fun e he => by simp at he, List.Pairwise.nil, Nat.le_refl _, fun c => by simp⟩
  · rintro ⟨hh, x⟩ rest u s' ⟨done, h', tk, rs, hes, rfl, hsb, hS, hsg, hnd, hle, hin⟩
    obtain ⟨⟨c, t, ex⟩, k, hk, hkh⟩ := hW (hh, x) (by rw [hes]; exact List.mem_append_right _ List.mem_cons_self)
    dsimp only at ex hk hkh
    subst ex
    have ek : k = sg c := by
      obtain ⟨_, q⟩ := Value.isStrOf_shape (show Value.isStrOf k (.str (sg c) t) = true from hk)
      injection q with q1
      exact q1.symm
    subst ek
    subst hkh
    have hB1 : SR prog w h' B fs led := hS0.at fun o e => (hsb.2 B hRB).trans e
    have hlen : rs.length < 3900 := by
      have : done.length ≤ es.length := by rw [hes, List.length_append]; omega
      omega
    have tail : ∀ (h2 : Heap) (rs2 : List (Int × Value)), Heap.SameBut R s.heap h2 → SR prog w h2 R rs2 led → (∀ e ∈ rs2, ∃ c t, e.2 = .str (sg c) t) → (rs2.map (fun e => codeV e.2)).Nodup → rs2.length ≤ done.length + 1 →
        (∀ d, d ∈ rs2.map (fun e => codeV e.2) ↔ ((d ∈ done.map (fun e => codeV e.2) ∨ d = c) ∧ d ∈ ds)) →
        ∃ (done : List (Int × Value)) (h' : Heap) (tk1 : Nat) (rs : List (Int × Value)), es = done ++ rest ∧ ({ s with heap := h2, toks := tk } : Shared) = { s with heap := h', toks := tk1 } ∧ Heap.SameBut R s.heap h' ∧ SR prog w h' R rs led ∧ (∀ e ∈ rs, ∃ c t, e.2 = .str (sg c) t) ∧ (rs.map (fun e => codeV e.2)).Nodup ∧ rs.length ≤ done.length ∧ ∀ c, c ∈ rs.map (fun e => codeV e.2) ↔ (c ∈ done.map (fun e => codeV e.2) ∧ c ∈ ds) := fun h2 rs2 a1 a2 a3 a4 a5 a6 => by
      refine ⟨done ++ [((PySem.strKind prog w).hash (sg c), .str (sg c) t)], h2, tk, rs2, by rw [hes, List.append_assoc]; rfl, rfl, a1, a2, a3, a4, by rw [List.length_append]; exact a5, fun d => ?_⟩
      rw [a6, List.map_append, List.mem_append]
      show _ ↔ ((_ ∨ d ∈ [c]) ∧ _)
      rw [List.mem_singleton]
    dsimp only
    refine wpAny_bind (wpAny_holding (wpAny_bind (wpAny_setFind_of (knd := PySem.strKind prog w) (k := sg c) (x := .str (sg c) t) (strKind_is _ _ _ _) rfl hB1.setOf fun r hr => ?_)))
    have hrd : r.isSome = decide (c ∈ ds) := by
      rw [hr]
      refine decide_eq_decide.mpr ?_
      rw [← hB.2.2 c, List.mem_map]
      constructor
      · rintro ⟨e, he, q⟩
        obtain ⟨d, u, eu⟩ := hB.1 e he
        exact ⟨e, he, ((isStr_code eu).mp q).symm⟩
      · rintro ⟨e, he, q⟩
        obtain ⟨d, u, eu⟩ := hB.1 e he
        exact ⟨e, he, (isStr_code eu).mpr q.symm⟩
    rw [hrd]
    by_cases hc : c ∈ ds
    · rw [decide_eq_true hc]
      simp only [if_true]
      refine wpAny_bind ?_
      refine add_str (s := { s with heap := h', toks := tk }) hS (by omega) (fun hex => ?_) (fun hno h2 es2 hsb2 hR2 hp => ?_)
      · refine wpAny_pure (wpAny_bind (hwas h' tk _ hsb (wpAny_pure (tail h' rs hsb hS hsg hnd (by omega) fun d => ?_))))
        rw [hin d]
        constructor
        · exact fun ⟨a, b⟩ => ⟨.inl a, b⟩
        · rintro ⟨a, b⟩
          rcases a with a | rfl
          · exact ⟨a, b⟩
          · obtain ⟨e, he, hk'⟩ := hex
            obtain ⟨c', t', e'⟩ := hsg e he
            exact (hin d).mp (List.mem_map.mpr ⟨e, he, ((isStr_code e').mp hk').symm⟩)
      · have hperm : (es2.map (fun e => codeV e.2)).Perm (rs.map (fun e => codeV e.2) ++ [c]) := by
          have := hp.map (fun e => codeV e.2)
          rw [List.map_append] at this
          exact this
        have hnc : c ∉ rs.map (fun e => codeV e.2) := by
          intro hc1
          obtain ⟨e, he, e1⟩ := List.mem_map.mp hc1
          obtain ⟨c', t', e'⟩ := hsg e he
          have h8 := hno e he
          have h9 := (isStr_code (prog := prog) (w := w) (c := c) e').mpr e1.symm
          rw [h9] at h8
          cases h8
        refine wpAny_pure (wpAny_bind (hwas h2 tk _ (hsb.trans hsb2) (wpAny_pure (tail h2 es2 (hsb.trans hsb2) hR2 (fun e he => ?_) ?_ ?_ fun d => ?_))))
        · rcases List.mem_append.mp (hp.mem_iff.mp he) with q | q
          · exact hsg e q
          · rw [List.mem_singleton.mp q]; exact ⟨c, t, rfl⟩
        · refine hperm.nodup_iff.mpr ?_
          rw [List.nodup_append]
          refine ⟨hnd, by simp, fun a ha b hb e => ?_⟩
          rw [List.mem_singleton.mp hb] at e
          exact hnc (e ▸ ha)
        · rw [hp.length_eq, List.length_append]
          show rs.length + 1 ≤ _
          omega
        · rw [hperm.mem_iff, List.mem_append, List.mem_singleton, hin d]
          constructor
          · rintro (⟨a, b⟩ | rfl)
            · exact ⟨.inl a, b⟩
            · exact ⟨.inr rfl, hc⟩
          · rintro ⟨a | rfl, b⟩
            · exact .inl ⟨a, b⟩
            · exact .inr rfl
    · rw [decide_eq_false hc]
      simp only [Bool.false_eq_true, if_false]
      refine wpAny_pure (wpAny_bind (hwas h' tk _ hsb (wpAny_pure (tail h' rs hsb hS hsg hnd (by omega) fun d => ?_))))
      rw [hin d]
      constructor
      · exact fun ⟨a, b⟩ => ⟨.inl a, b⟩
      · rintro ⟨a | rfl, b⟩
        · exact ⟨a, b⟩
        · exact absurd b hc
  · rintro u s' ⟨done, h', tk, rs, hes, rfl, hsb, hS, hsg, hnd, hle, hin⟩
    rw [List.append_nil] at hes
    subst hes
    exact h h' tk hsb ⟨rs, hS, hsg, hnd, hin⟩
theorem SR.elem {h : Heap} {a : Addr} {es : List (Int × Value)} {led : Bool} (S : SR prog w h a es led) : ∀ e ∈ es, ∃ k, (PySem.strKind prog w).is k e.2 = true ∧ e.1 = (PySem.strKind prog w).hash k := fun e he => (S.el e he).1
theorem unchanged_SR {id : String} {a : Addr} {o : Obj} {ea : Array (Int × Value)} {ep : Nat} {t : SetTable} {Q : Unit → Shared → Prop} (ho : s.heap.get? a = some o) (hd : o.data = .set ea ep t) (hf : t.fits ea.size = true) (h : Q () s) : wpAny (model prog w) A (Builtin.Frozenset.unchanged id a ep) Q E s := by
  unfold Builtin.Frozenset.unchanged
  refine wpAny_bind (wpAny_setEpoch_of ho hd hf ?_)
  refine wpAny_ite_split (fun hab => absurd hab (by simp)) fun _ => ?_
  exact wpAny_pure h
theorem SC.signs {h : Heap} {S : Addr} {led : Bool} {cs : List Nat} (x : SC prog w h S led cs) : ∃ es, SR prog w h S es led ∧ Signs es cs := x.ex
theorem newSet_ {Q : Value → Shared → Prop} (h : ∀ h' : Heap, (∀ b o, s.heap.get? b = some o → h'.get? b = some o) → SR prog w h' s.heap.objs.size [] (!w.params.followText "set-order") → Q (.ref s.heap.objs.size) { s with heap := h' }) :
    wpAny (model prog w) A (newSet (.type "set")) Q E s := by
  unfold newSet
  refine wpAny_bind (byText_ ?_)
  refine wpAny_newObj_type ?_
  refine h _ (fun b o e => Heap.get?_push_of_some _ e) ⟨⟨_, #[], 0, _, Heap.get?_push_size _ rfl, ⟨rfl, rfl, rfl⟩, rfl, rfl, by rfl, rfl, .inl rfl⟩, fun e he => by simp at he, by decide⟩
theorem base_set {a : Addr} {Q : Value → Shared → Prop} (hT : s.TypeIs (.ref a) "set") (h : Q (.type "set") s) : wpAny (model prog w) A (Builtin.Frozenset.baseOf a) Q E s := by
  unfold Builtin.Frozenset.baseOf
  refine wpAny_bind (wpAny_isInstance hT sub_set_self ?_)
  exact wpAny_pure h
theorem and_signs {id : String} {a b : Addr} {cs ds : List Nat} (hab : a ≠ b) (hA : SC prog w s.heap a (!w.params.followText "set-order") cs) (hB : SC prog w s.heap b (!w.params.followText "set-order") ds)
    (ha : ∀ c : List Nat, c.Nodup → (∀ d ∈ c, d ∈ cs) → c.length < 3900) (hb : ∀ c : List Nat, c.Nodup → (∀ d ∈ c, d ∈ ds) → c.length < 3900) {Q : Value → Shared → Prop}
    (h : ∀ (h' : Heap) (d : Drawn) (tk : Nat), (∀ b o, s.heap.get? b = some o → h'.get? b = some o) → SC prog w h' s.heap.objs.size (!w.params.followText "set-order") (cs.filter fun c => decide (c ∈ ds)) → Q (.ref s.heap.objs.size) { s with heap := h', drawn := d, toks := tk }) :
    wpAny (model prog w) A (Builtin.Frozenset.intersection id a (.ref b)) Q E s := by
  obtain ⟨es, hAR, hAs⟩ := hA.signs
  obtain ⟨fs, hBR, hBs⟩ := hB.signs
  have nA : es.length < 3900 := by
    have := ha (es.map (fun e => codeV e.2)) hAs.2.1 fun d hd => (hAs.2.2 d).mp hd
    rwa [List.length_map] at this
  have nB : fs.length < 3900 := by
    have := hb (fs.map (fun e => codeV e.2)) hBs.2.1 fun d hd => (hBs.2.2 d).mp hd
    rwa [List.length_map] at this
  unfold Builtin.Frozenset.intersection
  refine wpAny_ite_split (fun hq => absurd hq (by
    intro z
    exact hab (by simpa using (beq_iff_eq.mp z).symm))) fun _ => ?_
  refine wpAny_bind (base_set hAR.typeIs ?_)
  refine wpAny_bind (newSet_ fun h1 hk1 hR1 => ?_)
  refine wpAny_bind (wpAny_pure ?_)
  have hA1 : SR prog w h1 a es (!w.params.followText "set-order") := hAR.at fun o => hk1 a o
  have hB1 : SR prog w h1 b fs (!w.params.followText "set-order") := hBR.at fun o => hk1 b o
  have aR : a ≠ s.heap.objs.size := by
    obtain ⟨o, _, _, _, ho, _⟩ := hAR.ex
    exact Nat.ne_of_lt (Heap.lt_size ho)
  have bR : b ≠ s.heap.objs.size := by
    obtain ⟨o, _, _, _, ho, _⟩ := hBR.ex
    exact Nat.ne_of_lt (Heap.lt_size ho)
  -- the walk, whichever is walked
  have walk : ∀ (W B : Addr) (es fs : List (Int × Value)) (cs' ds' : List Nat), W ≠ s.heap.objs.size → B ≠ s.heap.objs.size → SR prog w h1 W es (!w.params.followText "set-order") → SR prog w h1 B fs (!w.params.followText "set-order") → Signs es cs' → Signs fs ds' → es.length < 3900 →
      (∀ c, (c ∈ cs' ∧ c ∈ ds') ↔ (c ∈ cs ∧ c ∈ ds)) →
      wpAny (model prog w) A (do
        let was ← setEpoch W
        for (h, x) in ← setWalkUnseen W [B, s.heap.objs.size] (some s.heap.objs.size) do
          holding [x] do
            if (← setFind B x h).isSome then
              let _ ← setAddHashed s.heap.objs.size x h
          Builtin.Frozenset.unchanged id W was) (fun _ s' => Q (.ref s.heap.objs.size) s') E { s with heap := h1 } := by
    intro W B es fs cs' ds' hWR hBR2 hW hB2 sW sB nW hmem
    obtain ⟨o, ea, ep, t, ho, hx, hd, he, hf, hl, hp⟩ := hW.ex
    refine wpAny_bind (wpAny_setEpoch_of ho hd hf ?_)
    refine wpAny_bind (walk_unseen hW hB2 hR1 sW.str sB.str fun ws h2 d hperm hsb hR2 => ?_)
    dsimp only at hsb
    rw [← Array.forIn_toList]
    have oldW : ∀ o, h1.get? W = some o → h2.get? W = some o := fun o e => (hsb.2 W hWR).trans e
    refine wpAny_bind ?_
    refine and_loop (id := id) (s := { s with heap := h2, drawn := d }) (es := ws.toList) (cs := cs') sB hBR2 hWR (fun e he2 => ?_) (by rw [hperm.length_eq]; exact nW) (hB2.at fun o e => (hsb.2 B hBR2).trans e) ⟨es, hW.at oldW⟩ (was := ep) (fun h3 tk Q' hsb3 hq => ?_) hR2 _ rfl fun h3 tk hsb3 hend => ?_
    · have hm := hperm.mem_iff.mp he2
      exact ⟨sW.1 e hm, hW.elem e hm⟩
    · dsimp only at hsb3
      exact unchanged_SR ((hsb3.2 W hWR).trans (oldW _ ho)) hd hf hq
    · dsimp only at hsb3
      obtain ⟨rs, hRS, hsg, hnd, hin⟩ := hend
      refine wpAny_pure ?_
      refine h h3 d tk (fun c oc ec => ?_) ⟨rs, hRS, hsg, hnd, fun c => ?_⟩
      · have hne : c ≠ s.heap.objs.size := Nat.ne_of_lt (Heap.lt_size ec)
        exact (hsb3.2 c hne).trans ((hsb.2 c hne).trans (hk1 c oc ec))
      · rw [hin c, (hperm.map (fun e => codeV e.2)).mem_iff, sW.2.2 c, List.mem_filter, decide_eq_true_eq, hmem c]
  refine wpAny_bind (wpAny_holding ?_)
  have hT1 : Shared.TypeIs { s with heap := h1 } (.ref b) "set" := by
    obtain ⟨o, ea, ep, t, ho, hx, _⟩ := hB1.ex
    exact ⟨o, ho, hx.1⟩
  refine wpAny_bind (any_set hT1 ?_)
  rw [if_pos rfl]
  refine wpAny_bind (wpAny_pure ?_)
  unfold Builtin.Frozenset.sizeOf
  refine wpAny_bind (wpAny_bind (hB1.entries fun eb hb1 => wpAny_pure ?_))
  refine wpAny_bind (wpAny_bind (hA1.entries fun ea ha1 => wpAny_pure ?_))
  have fin : ∀ (m : Sem PUnit), wpAny (model prog w) A m (fun _ s' => Q (.ref s.heap.objs.size) s') E { s with heap := h1 } → wpAny (model prog w) A m (fun a s' => wpAny (model prog w) A (pure (Value.ref s.heap.objs.size)) Q E s') E { s with heap := h1 } := fun m hm => wpAny_mono hm (fun _ _ q => wpAny_pure q) fun _ _ q => q
  by_cases hc : eb.size > ea.size
  · rw [if_pos hc]
    exact fin _ (walk a b es fs cs ds aR bR hA1 hB1 hAs hBs nA fun c => Iff.rfl)
  · rw [if_neg hc]
    exact fin _ (walk b a fs es ds cs bR aR hB1 hA1 hBs hAs nB fun c => And.comm)
/-- one set & the other -/
theorem op_and_signs {a b : Addr} {cs ds : List Nat} (hab : a ≠ b) (hA : SC prog w s.heap a (!w.params.followText "set-order") cs) (hB : SC prog w s.heap b (!w.params.followText "set-order") ds)
    (ha : ∀ c : List Nat, c.Nodup → (∀ d ∈ c, d ∈ cs) → c.length < 3900) (hb : ∀ c : List Nat, c.Nodup → (∀ d ∈ c, d ∈ ds) → c.length < 3900) {Q : Value → Shared → Prop}
    (h : ∀ (h' : Heap) (d : Drawn) (tk : Nat), (∀ b o, s.heap.get? b = some o → h'.get? b = some o) → SC prog w h' s.heap.objs.size (!w.params.followText "set-order") (cs.filter fun c => decide (c ∈ ds)) → Q (.ref s.heap.objs.size) { s with heap := h', drawn := d, toks := tk }) :
    wpAny (model prog w) A (binaryOp .BitAnd (.ref a) (.ref b)) Q E s := by
  have tA : s.TypeIs (.ref a) "set" := by obtain ⟨es, hR, _⟩ := hA.signs; exact hR.typeIs
  have tB : s.TypeIs (.ref b) "set" := by obtain ⟨es, hR, _⟩ := hB.signs; exact hR.typeIs
  refine wpAny_binaryOp_same (op := .BitAnd) (T := "set") tA tB PySem.F.fills_set_and PySem.F.slot_set_and (wpAny_call_entry PySem.F.slot_set_and tA entry_set_and ?_ (PySem.F.args_set_and_2 _ _))
  unfold Builtin.«frozenset.__and__»
  show wpAny _ _ (Builtin.Frozenset.slot1 "__and__" _ >>= _) _ _ s
  refine wpAny_bind (wpAny_of_eq (a := (Value.ref a, Value.ref b)) rfl ?_)
  show wpAny _ _ ((Builtin.Frozenset.isAnySet (.ref a) <&&> Builtin.Frozenset.isAnySet (.ref b)) >>= _) _ _ s
  refine wpAny_bind ?_
  show wpAny _ _ (Builtin.Frozenset.isAnySet (.ref a) >>= _) _ _ s
  refine wpAny_bind (any_set tA ?_)
  show wpAny _ _ (Builtin.Frozenset.isAnySet (.ref b)) _ _ s
  refine any_set tB ?_
  show wpAny _ _ (Builtin.Frozenset.addrOf (.ref a) >>= _) _ _ s
  refine wpAny_bind (wpAny_pure ?_)
  refine wpAny_bind ?_
  refine and_signs hab hA hB ha hb fun h' d tk hk hS => ?_
  exact wpAny_pure ⟨_, rfl, (fun z => by cases z), h h' d tk hk hS⟩
end
/-- the object at S is a set of just these signs -/
def SetC (P : Program) (w : World) (S : Addr) (cs : List Nat) : Heap → Prop := fun h => SC P w h S (!w.params.followText "set-order") cs
theorem SetC.ok {P : Program} {w : World} {H : Hp} {h : Heap} {S : Addr} {cs : List Nat} (x : SC P w h S (!w.params.followText "set-order") cs) : ObjOk P w H h S (.ext (SetC P w S cs)) :=
  ⟨x, by obtain ⟨es, hR, _⟩ := x.ex; obtain ⟨o, _, _, _, ho, _⟩ := hR.ex; exact ⟨o, ho⟩, fun h1 h2 q k => SC.at q k⟩
section
variable {X : Cx}
/-- set(text) -/
theorem cr_setS (hc : X.calm = true) : CallR X (.type "set") (fun xs H Q => ∃ z : Str, xs = [.str z] ∧ z.length < 3900 ∧ ∀ S, H S = none → Q (.ref S) (upd H S (.ext (SetC X.prog X.w S z.cps.toList)))) := by
  intro pins s σ H xs us Q I r h
  obtain ⟨z, rfl, hz, q⟩ := h
  obtain ⟨u, rfl, t, rfl⟩ := vals1 r
  refine call_set_str (I.ok.hd hc) hz fun h1 tk hS hk => ?_
  exact ⟨.ref s.heap.objs.size, _, I.laid (t' := tk) hk (Nat.le_refl _) (SetC.ok hS), rfl, q _ (I.hok.fresh (Nat.le_refl _))⟩
theorem op_andSet : OpR X (binaryOp .BitAnd) (fun x y H Q => ∃ a b cs ds, x = .ref a ∧ y = .ref b ∧ a ≠ b ∧ H a = some (.ext (SetC X.prog X.w a cs)) ∧ H b = some (.ext (SetC X.prog X.w b ds)) ∧
    (∀ c : List Nat, c.Nodup → (∀ d ∈ c, d ∈ cs) → c.length < 3900) ∧ (∀ c : List Nat, c.Nodup → (∀ d ∈ c, d ∈ ds) → c.length < 3900) ∧ ∀ S, H S = none → Q (.ref S) (upd H S (.ext (SetC X.prog X.w S (cs.filter fun c => decide (c ∈ ds)))))) := by
  intro pins s σ H x y v u Q I rx ry h
  obtain ⟨a, b, cs, ds, rfl, rfl, hab, hA, hB, ha, hb, q⟩ := h
  cases rx
  cases ry
  refine op_and_signs hab (I.hok a _ hA).1 (I.hok b _ hB).1 ha hb fun h1 d tk hk hS => ?_
  have I2 : Inv X pins σ (upd H s.heap.objs.size (.ext (SetC X.prog X.w s.heap.objs.size (cs.filter fun c => decide (c ∈ ds))))) { s with heap := h1, toks := tk } := I.laid (t' := tk) hk (Nat.le_refl _) (SetC.ok hS)
  exact ⟨.ref s.heap.objs.size, _, I2.drawn d, rfl, q _ (I.hok.fresh (Nat.le_refl _))⟩
/-- sorted(set) -/
theorem cr_sortedC (hc : X.calm = true) : CallR X (.builtin "sorted") (fun xs H Q => ∃ S cs, xs = [.ref S] ∧ H S = some (.ext (SetC X.prog X.w S cs)) ∧ (∀ ds : List Nat, ds.Nodup → (∀ d ∈ ds, d ∈ cs) → ds.length < 64) ∧
    ∀ (l : Addr) (ds : List Nat), H l = none → ds.Pairwise (· < ·) → (∀ c, c ∈ ds ↔ c ∈ cs) → Q (.ref l) (upd H l (.lst ((ds.map sg).map V.str)))) := by
  intro pins s σ H xs us Q I r h
  obtain ⟨S, cs, rfl, hS, h64, q⟩ := h
  obtain ⟨u, rfl, ru⟩ := vals1 r
  cases ru
  refine sorted_set (I.ok.hd hc) (I.hok S _ hS).1 h64 fun D h2 d tk2 n vs ds hD hk2 hat hst hpw hin => ?_
  have hlen : ((ds.map sg).map V.str).length ≤ sizeLine := by
    rw [List.length_map, List.length_map]
    exact small64 (h64 ds (hpw.imp fun a => Nat.ne_of_lt a) fun d hd => (hin d).mp hd)
  have I2 : Inv X pins σ (upd H D (.lst ((ds.map sg).map V.str))) { s with heap := h2, toks := tk2 } := I.laid (t' := tk2) hk2 hD ⟨hlen, vs, n, vals_of_strs hst, hat⟩
  exact ⟨.ref D, _, I2.drawn d, rfl, q D ds (I.hok.fresh hD) hpw hin⟩
end
end L2
set_option Elab.async false
set_option linter.all false
set_option maxRecDepth 100000
set_option maxHeartbeats 4000000
namespace L2
open PySem PySem.Spec PyProof.Rows
section
variable {prog : Program} {w : World} {A : Around} {R : Result → Shared → Prop} {I : Addr} {fp wr : List Addr} {n : Nat} {P : Nat → Value → Prop} {St : Nat → Heap → Prop}
end
section
variable {prog : Program} {w : World} {A : Around} {E : Value → Shared → Prop} {s : Shared}
end
section
variable {prog : Program} {w : World} {A : Around} {R : Result → Shared → Prop} {I : Addr} {fp wr : List Addr} {n : Nat} {P : Nat → Value → Prop} {St : Nat → Heap → Prop}
theorem min_loopD (W : Walks prog w A.in1 I fp wr n P St) (bt : Nat → Nat → Bool) (hcmp : CmpOf prog w A.in1 .Lt P bt) (S : Addr) (hSf : S ∉ fp) (kws : List (Str × Value)) :
    ∀ (k j : Nat) (s : Shared) (vb : Value) (c : Nat), n - (j + 1) = k → j + 1 ≤ n → St (j + 1) s.heap → P (argBest bt j) vb →
    s.heap.get? S = some { cls := .type "list", dict := none, data := .seq #[vb, vb] c, slots := #[] } →
    (∀ v h' tk, P (argBest bt (n - 1)) v → (∀ b o, b ∉ wr → b ≠ S → s.heap.get? b = some o → h'.get? b = some o) → R (.ok (.ret v)) { s with heap := h', toks := tk }) →
    codeAny (model prog w) A (.builtin "min.loop" ⟨[.ref I, .none, .ref S], kws⟩) R s := by
  have hSw : S ∉ wr := fun h => hSf (W.sub _ h)
  have hname : (toString "min" ++ toString ".loop" : String) = "min.loop" := by decide
  intro k
  induction k with
  | zero =>
    intro j s vb c hk hj hst hPb hS hR
    have hin : j + 1 = n := by omega
    refine codeAny_builtin F.entry_min_loop ?_
    rw [Around.under_plainId F.plain_min_loop _]
    show wpAny _ A.in1 (seqItems? (.ref S) >>= _) _ _ s
    refine wpAny_bind (wpAny_seqItems hS rfl ?_)
    show wpAny _ A.in1 (tryCatch (pyNext (.ref I)) _ >>= _) _ _ s
    refine wpAny_bind (wpAny_tryCatch (W.done s _ _ (hin ▸ hst) fun h' tk hk' => ?_))
    have hS' := hk' S _ hSw hS
    show wpAny _ A.in1 (updateSeq S (fun _ => #[]) >>= _) _ _ _
    refine wpAny_bind ?_
    refine wpAny_updateSeq hS' rfl (wpAny_bind (wpAny_letGo (wpAny_pure ?_)))
    refine hR vb _ tk (by rw [← hin]; exact hPb) fun b o hbw hbS e => (Heap.get?_update_other _ _ (Ne.symm hbS)).trans (hk' b o hbw e)
  | succ k ih =>
    intro j s vb c hk hj hst hPb hS hR
    have hlt : j + 1 < n := by omega
    refine codeAny_builtin F.entry_min_loop ?_
    rw [Around.under_plainId F.plain_min_loop _]
    show wpAny _ A.in1 (seqItems? (.ref S) >>= _) _ _ s
    refine wpAny_bind (wpAny_seqItems hS rfl ?_)
    show wpAny _ A.in1 (tryCatch (pyNext (.ref I)) _ >>= _) _ _ s
    refine wpAny_bind (wpAny_tryCatch (W.item (j + 1) s _ _ hlt hst fun v h' tk hP hst' hk' => ?_))
    have hS' := hk' S _ hSw hS
    show wpAny _ A.in1 (tryCatch (holding [v, v] (richCompare .Lt v vb >>= _)) _ >>= _) _ _ _
    refine wpAny_bind (wpAny_tryCatch (wpAny_holding (wpAny_bind (hcmp (j + 1) (argBest bt j) v vb _ _ _ hP hPb ?_))))
    refine wpAny_bind (wpAny_holding (wpAny_truthy_bool ?_))
    refine wpAny_bind (wpAny_letGo (wpAny_pure ?_))
    cases hb : bt (j + 1) (argBest bt j) with
    | true =>
      simp only [if_true]
      refine wpAny_bind ?_
      refine wpAny_updateSeq hS' rfl (wpAny_bind (wpAny_letGo ?_))
      rw [hname]
      refine wpAny_pure ⟨plainId_quiet F.plain_min_loop _, ih (j + 1) _ v _ (by omega) hlt (W.frame _ _ _ hst' fun b hbf o e => ?_) (by simp only [argBest, hb, if_true]; exact hP) (Heap.get?_update_self _ hS' rfl)
        fun v' h'' tk'' hP' hk'' => ?_⟩
      · exact (Heap.get?_update_other _ _ (fun h : S = b => hSf (by rw [h]; exact hbf))).trans e
      · exact hR v' h'' tk'' hP' fun b o hbw hbS e => hk'' b o hbw hbS ((Heap.get?_update_other _ _ (Ne.symm hbS)).trans (hk' b o hbw e))
    | false =>
      simp only [Bool.false_eq_true, if_false]
      refine wpAny_bind (wpAny_letGo ?_)
      rw [hname]
      refine wpAny_pure ⟨plainId_quiet F.plain_min_loop _, ih (j + 1) _ vb c (by omega) hlt hst' (by simp only [argBest, hb, Bool.false_eq_true, if_false]; exact hPb) hS' fun v' h'' tk'' hP' hk'' => ?_⟩
      exact hR v' h'' tk'' hP' fun b o hbw hbS e => hk'' b o hbw hbS (hk' b o hbw e)
/-- the same with a key, a builtin that is asked of each item -/
theorem min_loopK {KP : Nat → Value → Prop} {kid : String} (W : Walks prog w A.in1 I fp wr n P St) (bt : Nat → Nat → Bool) (hcmp : CmpOf prog w A.in1 .Lt KP bt) (S : Addr) (hSf : S ∉ fp) (kws : List (Str × Value))
    (hkey : ∀ i v (s : Shared) (Q : Value → Shared → Prop) (E : Value → Shared → Prop), P i v → (∀ u tk, KP i u → Q u { s with toks := tk }) → wpAny (model prog w) A.in1 (call (.builtin kid) [v]) Q E s) :
    ∀ (k j : Nat) (s : Shared) (vb kb : Value) (c : Nat), n - (j + 1) = k → j + 1 ≤ n → St (j + 1) s.heap → P (argBest bt j) vb → KP (argBest bt j) kb →
    s.heap.get? S = some { cls := .type "list", dict := none, data := .seq #[vb, kb] c, slots := #[] } →
    (∀ v h' tk, P (argBest bt (n - 1)) v → (∀ b o, b ∉ wr → b ≠ S → s.heap.get? b = some o → h'.get? b = some o) → R (.ok (.ret v)) { s with heap := h', toks := tk }) →
    codeAny (model prog w) A (.builtin "min.loop" ⟨[.ref I, .builtin kid, .ref S], kws⟩) R s := by
  have hSw : S ∉ wr := fun h => hSf (W.sub _ h)
  have hname : (toString "min" ++ toString ".loop" : String) = "min.loop" := by decide
  intro k
  induction k with
  | zero =>
    intro j s vb kb c hk hj hst hPb hKb hS hR
    have hin : j + 1 = n := by omega
    refine codeAny_builtin F.entry_min_loop ?_
    rw [Around.under_plainId F.plain_min_loop _]
    show wpAny _ A.in1 (seqItems? (.ref S) >>= _) _ _ s
    refine wpAny_bind (wpAny_seqItems hS rfl ?_)
    show wpAny _ A.in1 (tryCatch (pyNext (.ref I)) _ >>= _) _ _ s
    refine wpAny_bind (wpAny_tryCatch (W.done s _ _ (hin ▸ hst) fun h' tk hk' => ?_))
    have hS' := hk' S _ hSw hS
    show wpAny _ A.in1 (updateSeq S (fun _ => #[]) >>= _) _ _ _
    refine wpAny_bind ?_
    refine wpAny_updateSeq hS' rfl (wpAny_bind (wpAny_letGo (wpAny_pure ?_)))
    refine hR vb _ tk (by rw [← hin]; exact hPb) fun b o hbw hbS e => (Heap.get?_update_other _ _ (Ne.symm hbS)).trans (hk' b o hbw e)
  | succ k ih =>
    intro j s vb kb c hk hj hst hPb hKb hS hR
    have hlt : j + 1 < n := by omega
    refine codeAny_builtin F.entry_min_loop ?_
    rw [Around.under_plainId F.plain_min_loop _]
    show wpAny _ A.in1 (seqItems? (.ref S) >>= _) _ _ s
    refine wpAny_bind (wpAny_seqItems hS rfl ?_)
    show wpAny _ A.in1 (tryCatch (pyNext (.ref I)) _ >>= _) _ _ s
    refine wpAny_bind (wpAny_tryCatch (W.item (j + 1) s _ _ hlt hst fun v h' tk hP hst' hk' => ?_))
    have hS' := hk' S _ hSw hS
    show wpAny _ A.in1 (tryCatch (holding [v] (call (.builtin kid) [v])) _ >>= _) _ _ _
    refine wpAny_bind (wpAny_tryCatch (wpAny_holding (hkey (j + 1) v _ _ _ hP fun u tk2 hKu => ?_)))
    show wpAny _ A.in1 (tryCatch (holding [v, u] (richCompare .Lt u kb >>= _)) _ >>= _) _ _ _
    refine wpAny_bind (wpAny_tryCatch (wpAny_holding (wpAny_bind (hcmp (j + 1) (argBest bt j) u kb _ _ _ hKu hKb ?_))))
    refine wpAny_bind (wpAny_holding (wpAny_truthy_bool ?_))
    refine wpAny_bind (wpAny_letGo (wpAny_pure ?_))
    cases hb : bt (j + 1) (argBest bt j) with
    | true =>
      simp only [if_true]
      refine wpAny_bind ?_
      refine wpAny_updateSeq hS' rfl (wpAny_bind (wpAny_letGo ?_))
      rw [hname]
      refine wpAny_pure ⟨plainId_quiet F.plain_min_loop _, ih (j + 1) _ v u _ (by omega) hlt (W.frame _ _ _ hst' fun b hbf o e => ?_) (by simp only [argBest, hb, if_true]; exact hP) (by simp only [argBest, hb, if_true]; exact hKu) (Heap.get?_update_self _ hS' rfl)
        fun v' h'' tk'' hP' hk'' => ?_⟩
      · exact (Heap.get?_update_other _ _ (fun h : S = b => hSf (by rw [h]; exact hbf))).trans e
      · exact hR v' h'' tk'' hP' fun b o hbw hbS e => hk'' b o hbw hbS ((Heap.get?_update_other _ _ (Ne.symm hbS)).trans (hk' b o hbw e))
    | false =>
      simp only [Bool.false_eq_true, if_false]
      refine wpAny_bind (wpAny_letGo ?_)
      rw [hname]
      refine wpAny_pure ⟨plainId_quiet F.plain_min_loop _, ih (j + 1) _ vb kb c (by omega) hlt hst' (by simp only [argBest, hb, Bool.false_eq_true, if_false]; exact hPb) (by simp only [argBest, hb, Bool.false_eq_true, if_false]; exact hKb) hS' fun v' h'' tk'' hP' hk'' => ?_⟩
      exact hR v' h'' tk'' hP' fun b o hbw hbS e => hk'' b o hbw hbS (hk' b o hbw e)
/-- nothing to walk: the default -/
theorem min_loop0 {kid : Value} {d : Value} {s : Shared} {c : Nat} (W : Walks prog w A.in1 I fp wr 0 P St) (S : Addr) (hSf : S ∉ fp) (hst : St 0 s.heap)
    (hS : s.heap.get? S = some { cls := .type "list", dict := none, data := .seq #[] c, slots := #[] })
    (hR : ∀ h' tk, (∀ b o, b ∉ wr → b ≠ S → s.heap.get? b = some o → h'.get? b = some o) → R (.ok (.ret d)) { s with heap := h', toks := tk }) :
    codeAny (model prog w) A (.builtin "min.loop" ⟨[.ref I, kid, .ref S], [(Str.ofString "default", d)]⟩) R s := by
  have hSw : S ∉ wr := fun h => hSf (W.sub _ h)
  refine codeAny_builtin F.entry_min_loop ?_
  rw [Around.under_plainId F.plain_min_loop _]
  show wpAny _ A.in1 (seqItems? (.ref S) >>= _) _ _ s
  refine wpAny_bind (wpAny_seqItems hS rfl ?_)
  show wpAny _ A.in1 (tryCatch (pyNext (.ref I)) _ >>= _) _ _ s
  refine wpAny_bind (wpAny_tryCatch (W.done s _ _ hst fun h' tk hk' => ?_))
  refine wpAny_bind (wpAny_rule (wpAny_pure ?_))
  exact hR h' tk fun b o hbw _ e => hk' b o hbw e
end
section
variable {prog : Program} {w : World} {A : Around} {E : Value → Shared → Prop} {s : Shared}
theorem args_min_d (a d : Value) : argsOk "min" ⟨[a], [(Str.ofString "default", d)]⟩ := by unfold argsOk; kernel_rfl
theorem args_min_kd (a v d : Value) : argsOk "min" ⟨[a], [(Str.ofString "key", v), (Str.ofString "default", d)]⟩ := by unfold argsOk; kernel_rfl
theorem call_min_walkD {x d : Value} {Q : Value → Shared → Prop}
    (h : wpAny (model prog w) A.in1 (pyIter x) (fun it s₂ => ∃ I fp wr n P St bt, it = .ref I ∧ Walks prog w A.in1 I fp wr n P St ∧ St 0 s₂.heap ∧ (∀ b ∈ fp, b < s₂.heap.objs.size) ∧ CmpOf prog w A.in1 .Lt P bt ∧
      ∀ v h' tk, ((n = 0 ∧ v = d) ∨ (0 < n ∧ P (argBest bt (n - 1)) v)) → (∀ b o, b ∉ wr → s₂.heap.get? b = some o → h'.get? b = some o) → Q v { s₂ with heap := h', toks := tk }) E s) :
    wpAny (model prog w) A (call (.builtin "min") [x] [(Str.ofString "default", d)]) Q E s := by
  have hname : (toString "min" ++ toString ".loop" : String) = "min.loop" := by decide
  refine kmb_tree F.kind_min F.plain_min F.entry_min (args_min_d _ _) ?_
  show wpAny _ A.in1 (Builtin.Builtins.bindParams "min" ["key", "default"] 0 ⟨[], [(Str.ofString "default", d)]⟩ >>= _) _ _ s
  refine wpAny_bind (wpAny_of_eq (show Builtin.Builtins.bindParams "min" ["key", "default"] 0 ⟨[], [(Str.ofString "default", d)]⟩ = pure [none, some d] from rfl) ?_)
  refine wpAny_bind (wpAny_pure ?_)
  refine wpAny_bind (wpAny_mono h (fun it s₂ h₂ => ?_) fun _ _ e => e)
  obtain ⟨I, fp, wr, n, P, St, bt, rfl, W, hst, hfp, hcmp, hQ⟩ := h₂
  refine wpAny_bind (wpAny_newObj_type ?_)
  have hSf : s₂.heap.objs.size ∉ fp := fun hm => Nat.lt_irrefl _ (hfp _ hm)
  have hSw : s₂.heap.objs.size ∉ wr := fun h => hSf (W.sub _ h)
  rw [hname]
  refine wpAny_pure ⟨plainId_quiet F.plain_min_loop _, ?_⟩
  have hst1 := W.frame 0 s₂.heap (s₂.heap.push { cls := .type "list", data := .seq ([] : List Value).toArray }) hst fun b _ o e => Heap.get?_push_of_some _ e
  have hS1 : (s₂.heap.push { cls := .type "list", data := .seq ([] : List Value).toArray }).get? s₂.heap.objs.size = some { cls := .type "list", dict := none, data := .seq #[], slots := #[] } := Heap.get?_push_size _ rfl
  cases n with
  | zero =>
    exact min_loop0 W s₂.heap.objs.size hSf hst1 hS1 fun h' tk hk => hQ d h' tk (.inl ⟨rfl, rfl⟩) fun b o hbw e => hk b o hbw (Nat.ne_of_lt (Heap.lt_size e)) (Heap.get?_push_of_some _ e)
  | succ n =>
    refine codeAny_builtin F.entry_min_loop ?_
    rw [Around.under_plainId F.plain_min_loop _]
    show wpAny _ A.in1 (seqItems? (.ref _) >>= _) _ _ _
    refine wpAny_bind (wpAny_seqItems hS1 rfl ?_)
    show wpAny _ A.in1 (tryCatch (pyNext (.ref I)) _ >>= _) _ _ _
    refine wpAny_bind (wpAny_tryCatch (W.item 0 _ _ _ (Nat.succ_pos n) hst1 fun v h' tk hP hst' hk' => ?_))
    have hS' := hk' _ _ hSw hS1
    show wpAny _ A.in1 (updateSeq _ (fun _ => #[v, v]) >>= _) _ _ _
    refine wpAny_bind ?_
    refine wpAny_updateSeq hS' rfl ?_
    rw [hname]
    refine wpAny_pure ⟨plainId_quiet F.plain_min_loop _, min_loopD W bt hcmp s₂.heap.objs.size hSf _ _ 0 _ v _ rfl (Nat.succ_le_succ (Nat.zero_le n)) (W.frame _ _ _ hst' fun b hbf o e => ?_) hP (Heap.get?_update_self _ hS' rfl) fun v' h'' tk'' hP' hk'' => ?_⟩
    · exact (Heap.get?_update_other _ _ (fun h : s₂.heap.objs.size = b => hSf (by rw [h]; exact hbf))).trans e
    · exact hQ v' h'' tk'' (.inr ⟨Nat.succ_pos n, hP'⟩) fun b o hbw e => hk'' b o hbw (Nat.ne_of_lt (Heap.lt_size e)) ((Heap.get?_update_other _ _ (Ne.symm (Nat.ne_of_lt (Heap.lt_size e)))).trans (hk' b o hbw (Heap.get?_push_of_some _ e)))
theorem call_min_walkK {x d : Value} {kid : String} {Q : Value → Shared → Prop}
    (h : wpAny (model prog w) A.in1 (pyIter x) (fun it s₂ => ∃ I fp wr n P KP St bt, it = .ref I ∧ Walks prog w A.in1 I fp wr n P St ∧ St 0 s₂.heap ∧ (∀ b ∈ fp, b < s₂.heap.objs.size) ∧ CmpOf prog w A.in1 .Lt KP bt ∧
      (∀ i v (s : Shared) (Q : Value → Shared → Prop) (E : Value → Shared → Prop), P i v → (∀ u tk, KP i u → Q u { s with toks := tk }) → wpAny (model prog w) A.in1 (call (.builtin kid) [v]) Q E s) ∧
      ∀ v h' tk, ((n = 0 ∧ v = d) ∨ (0 < n ∧ P (argBest bt (n - 1)) v)) → (∀ b o, b ∉ wr → s₂.heap.get? b = some o → h'.get? b = some o) → Q v { s₂ with heap := h', toks := tk }) E s) :
    wpAny (model prog w) A (call (.builtin "min") [x] [(Str.ofString "key", .builtin kid), (Str.ofString "default", d)]) Q E s := by
  have hname : (toString "min" ++ toString ".loop" : String) = "min.loop" := by decide
  refine kmb_tree F.kind_min F.plain_min F.entry_min (args_min_kd _ _ _) ?_
  show wpAny _ A.in1 (Builtin.Builtins.bindParams "min" ["key", "default"] 0 ⟨[], [(Str.ofString "key", .builtin kid), (Str.ofString "default", d)]⟩ >>= _) _ _ s
  refine wpAny_bind (wpAny_of_eq (show Builtin.Builtins.bindParams "min" ["key", "default"] 0 ⟨[], [(Str.ofString "key", .builtin kid), (Str.ofString "default", d)]⟩ = pure [some (.builtin kid), some d] from rfl) ?_)
  refine wpAny_bind (wpAny_pure ?_)
  refine wpAny_bind (wpAny_mono h (fun it s₂ h₂ => ?_) fun _ _ e => e)
  obtain ⟨I, fp, wr, n, P, KP, St, bt, rfl, W, hst, hfp, hcmp, hkey, hQ⟩ := h₂
  refine wpAny_bind (wpAny_newObj_type ?_)
  have hSf : s₂.heap.objs.size ∉ fp := fun hm => Nat.lt_irrefl _ (hfp _ hm)
  have hSw : s₂.heap.objs.size ∉ wr := fun h => hSf (W.sub _ h)
  rw [hname]
  refine wpAny_pure ⟨plainId_quiet F.plain_min_loop _, ?_⟩
  have hst1 := W.frame 0 s₂.heap (s₂.heap.push { cls := .type "list", data := .seq ([] : List Value).toArray }) hst fun b _ o e => Heap.get?_push_of_some _ e
  have hS1 : (s₂.heap.push { cls := .type "list", data := .seq ([] : List Value).toArray }).get? s₂.heap.objs.size = some { cls := .type "list", dict := none, data := .seq #[], slots := #[] } := Heap.get?_push_size _ rfl
  cases n with
  | zero =>
    exact min_loop0 W s₂.heap.objs.size hSf hst1 hS1 fun h' tk hk => hQ d h' tk (.inl ⟨rfl, rfl⟩) fun b o hbw e => hk b o hbw (Nat.ne_of_lt (Heap.lt_size e)) (Heap.get?_push_of_some _ e)
  | succ n =>
    refine codeAny_builtin F.entry_min_loop ?_
    rw [Around.under_plainId F.plain_min_loop _]
    show wpAny _ A.in1 (seqItems? (.ref _) >>= _) _ _ _
    refine wpAny_bind (wpAny_seqItems hS1 rfl ?_)
    show wpAny _ A.in1 (tryCatch (pyNext (.ref I)) _ >>= _) _ _ _
    refine wpAny_bind (wpAny_tryCatch (W.item 0 _ _ _ (Nat.succ_pos n) hst1 fun v h' tk hP hst' hk' => ?_))
    have hS' := hk' _ _ hSw hS1
    show wpAny _ A.in1 (tryCatch (holding [v] (call (.builtin kid) [v])) _ >>= _) _ _ _
    refine wpAny_bind (wpAny_tryCatch (wpAny_holding (hkey 0 v _ _ _ hP fun u tk2 hKu => ?_)))
    show wpAny _ A.in1 (updateSeq _ (fun _ => #[v, u]) >>= _) _ _ _
    refine wpAny_bind ?_
    refine wpAny_updateSeq hS' rfl ?_
    rw [hname]
    refine wpAny_pure ⟨plainId_quiet F.plain_min_loop _, min_loopK W bt hcmp s₂.heap.objs.size hSf _ hkey _ 0 _ v u _ rfl (Nat.succ_le_succ (Nat.zero_le n)) (W.frame _ _ _ hst' fun b hbf o e => ?_) hP hKu (Heap.get?_update_self _ hS' rfl) fun v' h'' tk'' hP' hk'' => ?_⟩
    · exact (Heap.get?_update_other _ _ (fun h : s₂.heap.objs.size = b => hSf (by rw [h]; exact hbf))).trans e
    · exact hQ v' h'' tk'' (.inr ⟨Nat.succ_pos n, hP'⟩) fun b o hbw e => hk'' b o hbw (Nat.ne_of_lt (Heap.lt_size e)) ((Heap.get?_update_other _ _ (Ne.symm (Nat.ne_of_lt (Heap.lt_size e)))).trans (hk' b o hbw (Heap.get?_push_of_some _ e)))
end
end L2
set_option Elab.async false
set_option linter.all false
set_option maxRecDepth 100000
set_option maxHeartbeats 4000000
namespace L2
open PySem PySem.Spec PyProof.Rows
theorem best_lt (f : Nat → Int) : ∀ k, argBest (fun i j => decide (f i < f j)) k ≤ k ∧ ∀ j, j ≤ k → f (argBest (fun i j => decide (f i < f j)) k) ≤ f j ∧ (j < argBest (fun i j => decide (f i < f j)) k → f (argBest (fun i j => decide (f i < f j)) k) < f j)
  | 0 => ⟨Nat.le_refl _, fun j hj => by
      obtain rfl : j = 0 := by omega
      exact ⟨Int.le_refl _, fun h => absurd h (Nat.not_lt_zero _)⟩⟩
  | k + 1 => by
    obtain ⟨h1, h2⟩ := best_lt f k
    unfold argBest
    by_cases c : f (k + 1) < f (argBest (fun i j => decide (f i < f j)) k)
    · rw [if_pos (decide_eq_true c)]
      refine ⟨Nat.le_refl _, fun j hj => ?_⟩
      by_cases hk : j = k + 1
      · rw [hk]; exact ⟨Int.le_refl _, fun h => absurd h (Nat.lt_irrefl _)⟩
      · have := (h2 j (by omega)).1
        exact ⟨by omega, fun _ => by omega⟩
    · rw [if_neg (fun h => c (of_decide_eq_true h))]
      refine ⟨by omega, fun j hj => ?_⟩
      by_cases hk : j = k + 1
      · rw [hk]; exact ⟨by omega, fun h => by omega⟩
      · exact h2 j (by omega)
/-- how long the text at a place is -/
def lenAt (zs : List Str) (i : Nat) : Int := (zs[i]?).elim 0 fun z => (z.length : Int)
theorem lenAt_of {zs : List Str} {i : Nat} {z : Str} (h : zs[i]? = some z) : lenAt zs i = z.length := by unfold lenAt; rw [h]; rfl
theorem min_len_d {X : Cx} (hc : X.calm = true) {pins : List (Addr × Obj)} {s : Shared} {σ : St} {H : Hp} {a : Addr} {zs : List Str} {d : Value} {x : V} {Q : VK} (I : Inv X pins σ H s) (hs : SqL X.K H a (zs.map V.str)) (rd : RelV x d) (hz : ∀ z ∈ zs, z.length ≤ sizeLine)
    (q0 : zs = [] → Q x H) (q1 : ∀ (i : Nat) (z : Str), zs[i]? = some z → argMin zs i → Q (.str z) H) :
    wpAny (model X.prog X.w) X.A (call (.builtin "min") [.ref a] [(Str.ofString "key", .builtin "len"), (Str.ofString "default", d)]) (EP X pins σ Q) X.xe s := by
  obtain ⟨its, rv, hl, _⟩ := I.list hs
  have hli := hl.isList
  have hlen : its.length = zs.length := by have := rv.length; rw [List.length_map] at this; exact this.symm
  have hsz : s.heap.objs.size ≠ a := fun e => by
    obtain ⟨o, ho, _⟩ := hli
    have := Heap.lt_size ho
    rw [← e] at this
    exact Nat.lt_irrefl _ this
  refine call_min_walkK (wpAny_pyIter_list hli ?_)
  refine ⟨_, _, _, _, _, fun i u => ∃ t, u = .int (lenAt zs i) t, _, _, rfl, Walks.list (A := X.A.in1) (I.ok.hd hc) s.heap.objs.size a (Ne.symm hsz) its.toArray, ⟨⟨_, Heap.get?_push_size _ rfl, rfl, rfl⟩, ?_⟩, fun b hb => ?_, CmpOf.ints_lt (lenAt zs) (fun i v h => h), fun i v s1 Q1 E1 hP hq => ?_, fun v h' tk hP hk => ?_⟩
  · obtain ⟨o, ho, c1, c2⟩ := hli
    exact ⟨o, Heap.get?_push_of_some _ ho, c1, c2⟩
  · show b < (s.heap.push _).objs.size
    rw [Heap.size_push]
    rcases List.mem_cons.mp hb with rfl | hb
    · exact Nat.lt_succ_self _
    · rw [List.mem_singleton.mp hb]
      obtain ⟨o, ho, _⟩ := hli
      exact Nat.lt_succ_of_lt (Heap.lt_size ho)
  · obtain ⟨z, t, hz1, rfl⟩ := text_at rv hP
    have hl1 := hz z (List.mem_of_getElem? hz1)
    have hn := line63
    refine len_str (by omega) (hq _ _ ⟨_, by rw [lenAt_of hz1]⟩)
  · have I3 : Inv X pins σ H { s with heap := h', toks := tk } := I.kept (t' := tk) fun b o e => hk b o (fun hm => absurd (Heap.lt_size e) (by rw [List.mem_singleton.mp hm]; exact Nat.lt_irrefl _)) (Heap.get?_push_of_some _ e)
    rw [List.size_toArray, hlen] at hP
    rcases hP with ⟨h0, rfl⟩ | ⟨h0, hP⟩
    · exact ⟨x, H, I3, rd, q0 (List.eq_nil_of_length_eq_zero h0)⟩
    · obtain ⟨z, t, hz1, rfl⟩ := text_at rv hP
      obtain ⟨h1, h2⟩ := best_lt (lenAt zs) (zs.length - 1)
      refine ⟨.str z, H, I3, ⟨_, rfl⟩, q1 _ z hz1 fun j y z' hy hz' => ?_⟩
      rw [hz1] at hy
      cases hy
      have hjl := (List.getElem?_eq_some_iff.mp hz').1
      have h3 := h2 j (by omega)
      rw [lenAt_of hz1, lenAt_of hz'] at h3
      exact ⟨by omega, fun hj => by have := h3.2 hj; omega⟩
theorem min_text_d {X : Cx} (hc : X.calm = true) {pins : List (Addr × Obj)} {s : Shared} {σ : St} {H : Hp} {a : Addr} {zs : List Str} {d : Value} {x : V} {Q : VK} (I : Inv X pins σ H s) (hs : SqL X.K H a (zs.map V.str)) (rd : RelV x d)
    (q0 : zs = [] → Q x H) (q1 : ∀ z, z ∈ zs → (∀ y ∈ zs, ¬ y.cps.toList < z.cps.toList) → Q (.str z) H) :
    wpAny (model X.prog X.w) X.A (call (.builtin "min") [.ref a] [(Str.ofString "default", d)]) (EP X pins σ Q) X.xe s := by
  obtain ⟨its, rv, hl, _⟩ := I.list hs
  have hli := hl.isList
  have hlen : its.length = zs.length := by have := rv.length; rw [List.length_map] at this; exact this.symm
  have hsz : s.heap.objs.size ≠ a := fun e => by
    obtain ⟨o, ho, _⟩ := hli
    have := Heap.lt_size ho
    rw [← e] at this
    exact Nat.lt_irrefl _ this
  refine call_min_walkD (wpAny_pyIter_list hli ?_)
  refine ⟨_, _, _, _, _, _, _, rfl, Walks.list (A := X.A.in1) (I.ok.hd hc) s.heap.objs.size a (Ne.symm hsz) its.toArray, ⟨⟨_, Heap.get?_push_size _ rfl, rfl, rfl⟩, ?_⟩, fun b hb => ?_, cmp_texts rv, fun v h' tk hP hk => ?_⟩
  · obtain ⟨o, ho, c1, c2⟩ := hli
    exact ⟨o, Heap.get?_push_of_some _ ho, c1, c2⟩
  · show b < (s.heap.push _).objs.size
    rw [Heap.size_push]
    rcases List.mem_cons.mp hb with rfl | hb
    · exact Nat.lt_succ_self _
    · rw [List.mem_singleton.mp hb]
      obtain ⟨o, ho, _⟩ := hli
      exact Nat.lt_succ_of_lt (Heap.lt_size ho)
  · have I3 : Inv X pins σ H { s with heap := h', toks := tk } := I.kept (t' := tk) fun b o e => hk b o (fun hm => absurd (Heap.lt_size e) (by rw [List.mem_singleton.mp hm]; exact Nat.lt_irrefl _)) (Heap.get?_push_of_some _ e)
    rw [List.size_toArray, hlen] at hP
    rcases hP with ⟨h0, rfl⟩ | ⟨h0, hP⟩
    · exact ⟨x, H, I3, rd, q0 (List.eq_nil_of_length_eq_zero h0)⟩
    · obtain ⟨z, t, hz, rfl⟩ := text_at rv hP
      obtain ⟨h1, h2⟩ := best_text (codesAt zs) (zs.length - 1)
      refine ⟨.str z, H, I3, ⟨_, rfl⟩, q1 z (List.mem_of_getElem? hz) fun y hy => ?_⟩
      obtain ⟨j, hj⟩ := List.mem_iff_getElem?.mp hy
      have hjl := (List.getElem?_eq_some_iff.mp hj).1
      have h3 := h2 j (by omega)
      rw [codesAt_of hj, codesAt_of hz] at h3
      exact h3
abbrev TD := V → V → Hp → VK → Prop
def rMaxLenD (K : PySem.W.Frag) : TD := fun v x H Q => ∃ (a : Addr) (zs : List Str), v = V.ref a ∧ SqL K H a (zs.map V.str) ∧ (∀ z ∈ zs, z.length ≤ sizeLine) ∧ (zs = [] → Q x H) ∧ ∀ (i : Nat) (z : Str), zs[i]? = some z → argMax zs i → Q (.str z) H
def rMinLenD (K : PySem.W.Frag) : TD := fun v x H Q => ∃ (a : Addr) (zs : List Str), v = V.ref a ∧ SqL K H a (zs.map V.str) ∧ (∀ z ∈ zs, z.length ≤ sizeLine) ∧ (zs = [] → Q x H) ∧ ∀ (i : Nat) (z : Str), zs[i]? = some z → argMin zs i → Q (.str z) H
def rMaxD (K : PySem.W.Frag) : TD := fun v x H Q => ∃ (a : Addr) (ns : List Int), v = V.ref a ∧ SqL K H a (ns.map V.int) ∧ (ns = [] → Q x H) ∧ ∀ n, n ∈ ns → (∀ m ∈ ns, m ≤ n) → Q (.int n) H
def rMinSD (K : PySem.W.Frag) : TD := fun v x H Q => ∃ (a : Addr) (zs : List Str), v = V.ref a ∧ SqL K H a (zs.map V.str) ∧ (zs = [] → Q x H) ∧ ∀ z, z ∈ zs → (∀ y ∈ zs, ¬ y.cps.toList < z.cps.toList) → Q (.str z) H
def tDflt (r : TD) (t : TA) (td : TE) : TE := fun σ H Q => t σ H fun vs H1 => ∃ v, vs = [v] ∧ td σ H1 fun x H2 => r v x H2 Q
section
variable {X : Cx} {p pos p2 kpos kpos2 : Pos} {e d : Expr} {t : TA} {td : TE}
/-- f(e, key=len, default=d) -/
theorem keyed {f : String} {r : TD} (hc : X.calm = true) (hg : Gl X f) (hm : X.mg f = none) (hb : bootBuiltins f = some (.builtin f)) (hn : Str.ofString f ≠ Str.ofString "__name__") (hd0 : (Str.ofString f == ("__debug__" : Str)) = false) (hg2 : Gl X "len") (hm2 : X.mg "len" = none)
    (rule : ∀ (pins : List (Addr × Obj)) (s : Shared) (σ : St) (H : Hp) (v x : V) (u w : Value) (Q : VK), Inv X pins σ H s → RelV v u → RelV x w → r v x H Q → wpAny (model X.prog X.w) X.A (call (.builtin f) [u] [(Str.ofString "key", .builtin "len"), (Str.ofString "default", w)]) (EP X pins σ Q) X.xe s)
    (ha : PA X [e] t) (hd : PE X d td)
    (h1 : backTo pos (starEach [e] X.env) = (false, eval e X.env) :: backTo pos (starEach [] X.env)) (h2 : ((backTo pos (starEach [e] X.env)).any fun x => x.1) = false)
    (h3 : ((backToKw pos (keywordEach [⟨some "key", .Name "len" p2, kpos⟩, ⟨some "default", d, kpos2⟩] X.env)).all fun x => x.1.isSome) = true) (h4 : ((backToKw pos (keywordEach [⟨some "key", .Name "len" p2, kpos⟩, ⟨some "default", d, kpos2⟩] X.env)).any fun x => x.1.isNone) = false)
    (h5 : (backToKw pos (keywordEach [⟨some "key", .Name "len" p2, kpos⟩, ⟨some "default", d, kpos2⟩] X.env)).map (·.2) = [(do let v ← eval (.Name "len" p2) X.env; standAt pos; pure v), (do let v ← eval d X.env; standAt pos; pure v)])
    (h6 : (backToKw pos (keywordEach [⟨some "key", .Name "len" p2, kpos⟩, ⟨some "default", d, kpos2⟩] X.env)).filterMap (·.1) = [Str.ofString "key", Str.ofString "default"]) :
    PE X (.Call (.Name f p) [e] [⟨some "key", .Name "len" p2, kpos⟩, ⟨some "default", d, kpos2⟩] pos) (tDflt r t td) := by
  intro pins s σ H Q I h
  refine wpAny_Call_Name_kw (ld_blt I hg hm (u := .builtin f) hb ?_ hn hd0)
  refine callWith_kw (thn (ha pos pins s σ H _ I h) fun us s1 ⟨vs, H1, I1, r1, q1⟩ => ?_) h1 h2 h3 h4
  rw [h5, h6]
  obtain ⟨v, rfl, q1⟩ := q1
  obtain ⟨u, rfl, ru⟩ := vals1 r1
  refine wpAny_evalAll_cons (wpAny_bind (ld_blt I1 hg2 hm2 (u := .builtin "len") PySem.boot_len (wpAny_bind (wpAny_standAt (wpAny_pure ?_)))))
  refine wpAny_evalAll_cons (wpAny_bind (thn (hd pins s1 σ H1 _ I1 q1) fun w s2 ⟨x, H2, I2, rx, q2⟩ => wpAny_bind (wpAny_standAt (wpAny_pure ?_))))
  exact wpAny_evalAll_nil (rule pins s2 σ H2 v x u w Q I2 ru rx q2)
/-- f(e, default=d) -/
theorem dflted {f : String} {r : TD} (hc : X.calm = true) (hg : Gl X f) (hm : X.mg f = none) (hb : bootBuiltins f = some (.builtin f)) (hn : Str.ofString f ≠ Str.ofString "__name__") (hd0 : (Str.ofString f == ("__debug__" : Str)) = false)
    (rule : ∀ (pins : List (Addr × Obj)) (s : Shared) (σ : St) (H : Hp) (v x : V) (u w : Value) (Q : VK), Inv X pins σ H s → RelV v u → RelV x w → r v x H Q → wpAny (model X.prog X.w) X.A (call (.builtin f) [u] [(Str.ofString "default", w)]) (EP X pins σ Q) X.xe s)
    (ha : PA X [e] t) (hd : PE X d td)
    (h1 : backTo pos (starEach [e] X.env) = (false, eval e X.env) :: backTo pos (starEach [] X.env)) (h2 : ((backTo pos (starEach [e] X.env)).any fun x => x.1) = false)
    (h3 : ((backToKw pos (keywordEach [⟨some "default", d, kpos2⟩] X.env)).all fun x => x.1.isSome) = true) (h4 : ((backToKw pos (keywordEach [⟨some "default", d, kpos2⟩] X.env)).any fun x => x.1.isNone) = false)
    (h5 : (backToKw pos (keywordEach [⟨some "default", d, kpos2⟩] X.env)).map (·.2) = [(do let v ← eval d X.env; standAt pos; pure v)])
    (h6 : (backToKw pos (keywordEach [⟨some "default", d, kpos2⟩] X.env)).filterMap (·.1) = [Str.ofString "default"]) :
    PE X (.Call (.Name f p) [e] [⟨some "default", d, kpos2⟩] pos) (tDflt r t td) := by
  intro pins s σ H Q I h
  refine wpAny_Call_Name_kw (ld_blt I hg hm (u := .builtin f) hb ?_ hn hd0)
  refine callWith_kw (thn (ha pos pins s σ H _ I h) fun us s1 ⟨vs, H1, I1, r1, q1⟩ => ?_) h1 h2 h3 h4
  rw [h5, h6]
  obtain ⟨v, rfl, q1⟩ := q1
  obtain ⟨u, rfl, ru⟩ := vals1 r1
  refine wpAny_evalAll_cons (wpAny_bind (thn (hd pins s1 σ H1 _ I1 q1) fun w s2 ⟨x, H2, I2, rx, q2⟩ => wpAny_bind (wpAny_standAt (wpAny_pure ?_))))
  exact wpAny_evalAll_nil (rule pins s2 σ H2 v x u w Q I2 ru rx q2)
theorem pe_minLenD (hc : X.calm = true) (hg : Gl X "min") (hm : X.mg "min" = none) (hg2 : Gl X "len") (hm2 : X.mg "len" = none) (ha : PA X [e] t) (hd : PE X d td)
    (h1 : backTo pos (starEach [e] X.env) = (false, eval e X.env) :: backTo pos (starEach [] X.env) := by rfl) (h2 : ((backTo pos (starEach [e] X.env)).any fun x => x.1) = false := by rfl)
    (h3 : ((backToKw pos (keywordEach [⟨some "key", .Name "len" p2, kpos⟩, ⟨some "default", d, kpos2⟩] X.env)).all fun x => x.1.isSome) = true := by rfl) (h4 : ((backToKw pos (keywordEach [⟨some "key", .Name "len" p2, kpos⟩, ⟨some "default", d, kpos2⟩] X.env)).any fun x => x.1.isNone) = false := by rfl)
    (h5 : (backToKw pos (keywordEach [⟨some "key", .Name "len" p2, kpos⟩, ⟨some "default", d, kpos2⟩] X.env)).map (·.2) = [(do let v ← eval (.Name "len" p2) X.env; standAt pos; pure v), (do let v ← eval d X.env; standAt pos; pure v)] := by rfl)
    (h6 : (backToKw pos (keywordEach [⟨some "key", .Name "len" p2, kpos⟩, ⟨some "default", d, kpos2⟩] X.env)).filterMap (·.1) = [Str.ofString "key", Str.ofString "default"] := by rfl) :
    PE X (.Call (.Name "min" p) [e] [⟨some "key", .Name "len" p2, kpos⟩, ⟨some "default", d, kpos2⟩] pos) (tDflt (rMinLenD X.K) t td) :=
  keyed hc hg hm (by decide +kernel) (by decide) (by decide) hg2 hm2 (fun pins s σ H v x u w Q I ru rx ⟨a, zs, ev, hs, hz, q0, q1⟩ => by subst ev; cases ru; exact min_len_d hc I hs rx hz q0 q1) ha hd h1 h2 h3 h4 h5 h6
theorem pe_minSD (hc : X.calm = true) (hg : Gl X "min") (hm : X.mg "min" = none) (ha : PA X [e] t) (hd : PE X d td)
    (h1 : backTo pos (starEach [e] X.env) = (false, eval e X.env) :: backTo pos (starEach [] X.env) := by rfl) (h2 : ((backTo pos (starEach [e] X.env)).any fun x => x.1) = false := by rfl)
    (h3 : ((backToKw pos (keywordEach [⟨some "default", d, kpos2⟩] X.env)).all fun x => x.1.isSome) = true := by rfl) (h4 : ((backToKw pos (keywordEach [⟨some "default", d, kpos2⟩] X.env)).any fun x => x.1.isNone) = false := by rfl)
    (h5 : (backToKw pos (keywordEach [⟨some "default", d, kpos2⟩] X.env)).map (·.2) = [(do let v ← eval d X.env; standAt pos; pure v)] := by rfl)
    (h6 : (backToKw pos (keywordEach [⟨some "default", d, kpos2⟩] X.env)).filterMap (·.1) = [Str.ofString "default"] := by rfl) :
    PE X (.Call (.Name "min" p) [e] [⟨some "default", d, kpos2⟩] pos) (tDflt (rMinSD X.K) t td) :=
  dflted hc hg hm (by decide +kernel) (by decide) (by decide) (fun pins s σ H v x u w Q I ru rx ⟨a, zs, ev, hs, q0, q1⟩ => by subst ev; cases ru; exact min_text_d hc I hs rx q0 q1) ha hd h1 h2 h3 h4 h5 h6
end
end L2
set_option Elab.async false
set_option linter.all false
set_option maxRecDepth 100000
set_option maxHeartbeats 1600000
namespace L2
open PySem
def mrow (xs ys : List Nat) (p u : Nat) : List (Nat × Nat) := (List.range u).flatMap fun j => if xs[p]? = ys[ys.length - 1 - j]? then [(p + 1, ys.length - j)] else []
def mall (xs ys : List Nat) (t : Nat) : List (Nat × Nat) := (List.range t).flatMap fun i => mrow xs ys (xs.length - 1 - i) ys.length
def mts (xs ys : List Nat) : List (Nat × Nat) := mall xs ys xs.length ++ [(0, 0)]
theorem mrow_succ (xs ys : List Nat) (p u : Nat) : mrow xs ys p (u + 1) = mrow xs ys p u ++ if xs[p]? = ys[ys.length - 1 - u]? then [(p + 1, ys.length - u)] else [] := by
  unfold mrow
  rw [List.range_succ, List.flatMap_append, List.flatMap_singleton]
theorem mall_succ (xs ys : List Nat) (t : Nat) : mall xs ys (t + 1) = mall xs ys t ++ mrow xs ys (xs.length - 1 - t) ys.length := by
  unfold mall
  rw [List.range_succ, List.flatMap_append, List.flatMap_singleton]
theorem mem_mrow {xs ys : List Nat} {p u : Nat} {q : Nat × Nat} : q ∈ mrow xs ys p u ↔ ∃ j, j < u ∧ xs[p]? = ys[ys.length - 1 - j]? ∧ q = (p + 1, ys.length - j) := by
  unfold mrow
  rw [List.mem_flatMap]
  constructor
  · rintro ⟨j, hj, hm⟩
    rw [List.mem_range] at hj
    split at hm
    · rename_i e
      exact ⟨j, hj, e, List.mem_singleton.mp hm⟩
    · cases hm
  · rintro ⟨j, hj, e, rfl⟩
    exact ⟨j, List.mem_range.mpr hj, by rw [if_pos e]; exact List.mem_singleton.mpr rfl⟩
theorem mem_mts {xs ys : List Nat} {p s : Nat} : (p, s) ∈ mts xs ys ↔ (p = 0 ∧ s = 0) ∨ (1 ≤ p ∧ p ≤ xs.length ∧ 1 ≤ s ∧ s ≤ ys.length ∧ xs[p - 1]? = ys[s - 1]?) := by
  unfold mts mall
  rw [List.mem_append, List.mem_flatMap, List.mem_singleton]
  constructor
  · rintro (⟨i, hi, hm⟩ | e)
    · rw [List.mem_range] at hi
      obtain ⟨j, hj, e, q⟩ := mem_mrow.mp hm
      cases q
      refine .inr ⟨by omega, by omega, by omega, by omega, ?_⟩
      rw [show xs.length - 1 - i + 1 - 1 = xs.length - 1 - i by omega, show ys.length - j - 1 = ys.length - 1 - j by omega]
      exact e
    · cases e
      exact .inl ⟨rfl, rfl⟩
  · rintro (⟨rfl, rfl⟩ | ⟨h1, h2, h3, h4, e⟩)
    · exact .inr rfl
    · refine .inl ⟨xs.length - p, List.mem_range.mpr (by omega), mem_mrow.mpr ⟨ys.length - s, by omega, ?_, ?_⟩⟩
      · rw [show xs.length - 1 - (xs.length - p) = p - 1 by omega, show ys.length - 1 - (ys.length - s) = s - 1 by omega]
        exact e
      · rw [show xs.length - 1 - (xs.length - p) + 1 = p by omega, show ys.length - (ys.length - s) = s by omega]
def Ahd (a b : Nat × Nat) : Prop := b.1 < a.1 ∨ (b.1 = a.1 ∧ b.2 < a.2)
theorem range_lt (n : Nat) : (List.range n).Pairwise (· < ·) := List.pairwise_lt_range
theorem mrow_pw (xs ys : List Nat) (p u : Nat) (hu : u ≤ ys.length) : (mrow xs ys p u).Pairwise Ahd := by
  unfold mrow
  refine List.pairwise_flatMap.mpr ⟨fun j _ => ?_, ?_⟩
  · split
    · exact List.pairwise_singleton _ _
    · exact List.Pairwise.nil
  · refine (List.Pairwise.and_mem.mp (range_lt u)).imp fun {a b} h => ?_
    obtain ⟨ha, hb, h⟩ := h
    rw [List.mem_range] at ha hb
    intro x hx y hy
    split at hx
    · split at hy
      · rw [List.mem_singleton.mp hx, List.mem_singleton.mp hy]
        exact .inr ⟨rfl, by show ys.length - b < ys.length - a; omega⟩
      · cases hy
    · cases hx
theorem mts_pw (xs ys : List Nat) : (mts xs ys).Pairwise Ahd := by
  unfold mts
  refine List.pairwise_append.mpr ⟨?_, List.pairwise_singleton _ _, fun a ha b hb => ?_⟩
  · unfold mall
    refine List.pairwise_flatMap.mpr ⟨fun i _ => mrow_pw _ _ _ _ (Nat.le_refl _), ?_⟩
    refine (List.Pairwise.and_mem.mp (range_lt xs.length)).imp fun {a b} h => ?_
    obtain ⟨ha, hb, h⟩ := h
    rw [List.mem_range] at ha hb
    intro x hx y hy
    obtain ⟨_, _, _, rfl⟩ := mem_mrow.mp hx
    obtain ⟨_, _, _, rfl⟩ := mem_mrow.mp hy
    exact .inl (by show xs.length - 1 - b + 1 < xs.length - 1 - a + 1; omega)
  · rw [List.mem_singleton.mp hb]
    unfold mall at ha
    obtain ⟨i, _, hm⟩ := List.mem_flatMap.mp ha
    obtain ⟨_, _, _, rfl⟩ := mem_mrow.mp hm
    exact .inl (Nat.succ_pos _)
theorem Ahd.irrefl (a : Nat × Nat) : ¬ Ahd a a := fun h => by rcases h with h | ⟨_, h⟩ <;> omega
theorem mts_nd (xs ys : List Nat) : (mts xs ys).Nodup := (mts_pw xs ys).imp fun {a b} h e => by subst e; exact Ahd.irrefl _ h
/-- what stands further behind in both rows stands ahead in the list -/
theorem mts_ahead {xs ys : List Nat} {i : Nat} {a b : Nat × Nat} (ha : (mts xs ys)[i]? = some a) (hb : b ∈ mts xs ys) (h : a.1 < b.1) : b ∈ (mts xs ys).take i := by
  obtain ⟨j, hj⟩ := List.mem_iff_getElem?.mp hb
  obtain ⟨hil, ea⟩ := List.getElem?_eq_some_iff.mp ha
  obtain ⟨hjl, eb⟩ := List.getElem?_eq_some_iff.mp hj
  rcases Nat.lt_or_ge j i with c | c
  · refine List.mem_iff_getElem?.mpr ⟨j, ?_⟩
    rw [List.getElem?_take, if_pos c]
    exact hj
  · rcases Nat.lt_or_ge i j with c' | c'
    · have := List.pairwise_iff_getElem.mp (mts_pw xs ys) i j hil hjl c'
      rw [ea, eb] at this
      rcases this with h' | ⟨h', _⟩ <;> omega
    · obtain rfl : i = j := by omega
      rw [ha] at hj
      cases hj
      omega
theorem mrow_len (xs ys : List Nat) (p : Nat) : ∀ u, (mrow xs ys p u).length ≤ u
  | 0 => Nat.le_refl _
  | u + 1 => by
    rw [mrow_succ, List.length_append]
    have := mrow_len xs ys p u
    split
    · show _ + 1 ≤ _; omega
    · show _ + 0 ≤ _; omega
theorem mall_len (xs ys : List Nat) : ∀ t, (mall xs ys t).length ≤ t * ys.length
  | 0 => by rw [Nat.zero_mul]; exact Nat.le_refl _
  | t + 1 => by
    rw [mall_succ, List.length_append, Nat.succ_mul]
    have := mall_len xs ys t
    have := mrow_len xs ys (xs.length - 1 - t) ys.length
    omega
theorem mts_len {xs ys : List Nat} (hx : xs.length ≤ 200) (hy : ys.length ≤ 200) : (mts xs ys).length ≤ 40001 := by
  unfold mts
  rw [List.length_append]
  have h1 := mall_len xs ys xs.length
  have h2 : xs.length * ys.length ≤ 200 * 200 := Nat.mul_le_mul hx hy
  show _ + 1 ≤ _
  omega
theorem mall_le {xs ys : List Nat} (hx : xs.length ≤ 200) (hy : ys.length ≤ 200) {t : Nat} (ht : t ≤ xs.length) : (mall xs ys t).length ≤ 40000 := by
  have h1 := mall_len xs ys t
  have h2 : t * ys.length ≤ 200 * 200 := Nat.mul_le_mul (by omega) hy
  omega
theorem small5 {n : Nat} (h : n ≤ 100000) : n < sizeLine := Nat.lt_of_le_of_lt h (by decide)
def sk (p s : Nat) : List Key := [Sum.inl (p : Int), Sum.inl (s : Int)]
theorem sk_inj {p s p' s' : Nat} (h : sk p s = sk p' s') : p = p' ∧ s = s' := by
  unfold sk at h
  injection h with h1 h2
  injection h2 with h2 _
  have := Sum.inl.inj h1
  have := Sum.inl.inj h2
  omega
def tabP (ps : List (Nat × Nat)) (g : Nat → Nat → V) : List (List Key × V) := ps.map fun q => (sk q.1 q.2, g q.1 q.2)
theorem tabP_val {g : Nat → Nat → V} {p s : Nat} : ∀ {ps : List (Nat × Nat)}, (p, s) ∈ ps → valV (tabP ps g) (sk p s) = some (g p s)
  | (a, b) :: ps, h => by
    by_cases e : (a, b) = (p, s)
    · cases e
      exact valV_pos rfl
    · rcases List.mem_cons.mp h with h | h
      · exact absurd h.symm e
      · show valV ((sk a b, g a b) :: tabP ps g) _ = _
        rw [valV_neg fun z => e (by obtain ⟨h1, h2⟩ := sk_inj z; rw [h1, h2])]
        exact tabP_val h
theorem tabP_none {g : Nat → Nat → V} {p s : Nat} : ∀ {ps : List (Nat × Nat)}, (p, s) ∉ ps → valV (tabP ps g) (sk p s) = none
  | [], _ => rfl
  | (a, b) :: ps, h => by
    show valV ((sk a b, g a b) :: tabP ps g) _ = _
    rw [valV_neg fun z => h (by obtain ⟨h1, h2⟩ := sk_inj z; rw [h1, h2]; exact List.mem_cons_self)]
    exact tabP_none fun z => h (List.mem_cons_of_mem _ z)
theorem tabP_put {g : Nat → Nat → V} {p s : Nat} {ps : List (Nat × Nat)} (h : (p, s) ∉ ps) (v : V) (hv : g p s = v) : putK (tabP ps g) (sk p s) v = tabP (ps ++ [(p, s)]) g := by
  unfold putK
  rw [valV_any, tabP_none h]
  show tabP ps g ++ [(sk p s, v)] = _
  unfold tabP
  rw [List.map_append, ← hv]
  rfl
theorem tabP_congr {g g' : Nat → Nat → V} {ps : List (Nat × Nat)} (h : ∀ p s, (p, s) ∈ ps → g p s = g' p s) : tabP ps g = tabP ps g' := List.map_congr_left fun q hq => by rw [h q.1 q.2 hq]
theorem tabP_len (ps : List (Nat × Nat)) (g : Nat → Nat → V) : (tabP ps g).length = ps.length := List.length_map _
theorem tabP_get {g : Nat → Nat → V} {ps : List (Nat × Nat)} {i : Nat} {k : List Key} {v : V} (h : (tabP ps g)[i]? = some (k, v)) : ∃ p s, ps[i]? = some (p, s) ∧ k = sk p s ∧ v = g p s := by
  unfold tabP at h
  rw [List.getElem?_map] at h
  obtain ⟨q, hq, e⟩ := Option.map_eq_some_iff.mp h
  cases e
  exact ⟨q.1, q.2, hq, rfl, rfl⟩
theorem take_snoc {α : Type} {l : List α} {i : Nat} {a : α} (h : l[i]? = some a) : l.take (i + 1) = l.take i ++ [a] := by rw [List.take_add_one, h]; rfl
theorem nd_take {α : Type} {l : List α} {i : Nat} {a : α} (hn : l.Nodup) (h : l[i]? = some a) : a ∉ l.take i := fun hm => by
  obtain ⟨j, hj⟩ := List.mem_iff_getElem?.mp hm
  rw [List.getElem?_take] at hj
  split at hj
  · rename_i c
    obtain ⟨h1, e1⟩ := List.getElem?_eq_some_iff.mp h
    obtain ⟨h2, e2⟩ := List.getElem?_eq_some_iff.mp hj
    have := (List.getElem_inj hn).mp (e1.trans e2.symm)
    omega
  · cases hj
def nx (c p : Nat) (xs : List Nat) : Nat := p + (idx c (xs.drop p)).getD 0 + 1
theorem nx_of {c p : Nat} {xs : List Nat} (h : c ∈ xs.drop p) : p < nx c p xs ∧ nx c p xs ≤ xs.length ∧ xs[nx c p xs - 1]? = some c ∧ af c (xs.drop p) = xs.drop (nx c p xs) ∧ valV (entK (xs.drop p) p) (Sum.inr (sg c)) = some (.int ((nx c p xs : Nat) - 1 : Int)) := by
  have hs : (idx c (xs.drop p)).isSome = true := by rw [idx_in]; exact decide_eq_true h
  obtain ⟨j, hj⟩ := Option.isSome_iff_exists.mp hs
  have hl := idx_lt hj
  rw [List.length_drop] at hl
  have en : nx c p xs = p + j + 1 := by unfold nx; rw [hj]; rfl
  have hat : ∀ (l : List Nat) (j : Nat), idx c l = some j → l[j]? = some c := by
    intro l
    induction l with
    | nil => intro j h; cases h
    | cons x l ih =>
      intro j h
      have h' : (if x = c then some 0 else (idx c l).map (· + 1)) = some j := h
      by_cases e : x = c
      · rw [if_pos e] at h'; cases h'; rw [e]; rfl
      · rw [if_neg e] at h'
        obtain ⟨i, hi, rfl⟩ := Option.map_eq_some_iff.mp h'
        exact ih i hi
  refine ⟨by omega, by omega, ?_, ?_, ?_⟩
  · have := hat _ _ hj
    rw [List.getElem?_drop] at this
    rw [en, Nat.add_sub_cancel]
    exact this
  · unfold af
    rw [aft_idx, hj, en]
    show (xs.drop p).drop (j + 1) = _
    rw [List.drop_drop]
    rfl
  · rw [entK_val, hj, en]
    show some (V.int ((p + j : Nat) : Int)) = _
    congr 2
    omega
theorem AB.drop {xs : List Nat} (h : AB xs) (p : Nat) : AB (xs.drop p) := fun c hc => h c (List.mem_of_mem_drop hc)
theorem IsRow.ab {z : Str} (h : IsRow z) : AB z.cps.toList := h
theorem bo_len (xs ys : List Nat) : (bo xs ys).length ≤ 26 := by
  unfold bo
  exact Nat.le_trans (List.length_filter_le _ _) (by unfold ab; rw [List.length_range']; exact Nat.le_refl _)
/-- the next pair of a letter that both may go on with is among the pairs, and stands ahead -/
theorem nx_in {xs ys : List Nat} {p s c i : Nat} (hi : (mts xs ys)[i]? = some (p, s)) (hc : c ∈ bo (xs.drop p) (ys.drop s)) : (nx c p xs, nx c s ys) ∈ (mts xs ys).take i := by
  obtain ⟨h1, h2⟩ := bo_mem hc
  obtain ⟨a1, a2, a3, _, _⟩ := nx_of h1
  obtain ⟨b1, b2, b3, _, _⟩ := nx_of h2
  refine mts_ahead hi (mem_mts.mpr (.inr ⟨by omega, a2, by omega, b2, by rw [a3, b3]⟩)) a1
/-- the list of the next pairs -/
def Steps (H : Hp) (l : Addr) (xs ys : List Nat) (p s : Nat) : Prop := ∃ ts : List Addr, H l = some (.lst (ts.map V.ref)) ∧ ts.length = (bo (xs.drop p) (ys.drop s)).length ∧
  ∀ (j : Nat) (t : Addr) (c : Nat), ts[j]? = some t → (bo (xs.drop p) (ys.drop s))[j]? = some c → H t = some (.tup [.int ((nx c p xs : Nat) : Int), .int ((nx c s ys : Nat) : Int)])
theorem Steps.same {H H' : Hp} {l : Addr} {xs ys : List Nat} {p s : Nat} (h : Steps H l xs ys p s) (q : Same H H') : Steps H' l xs ys p s := by
  obtain ⟨ts, h1, h2, h3⟩ := h
  exact ⟨ts, q _ _ h1, h2, fun j t c a b => q _ _ (h3 j t c a b)⟩
def PairL (H : Hp) (l : Addr) (ps : List (Nat × Nat)) : Prop := ∃ ts : List Addr, H l = some (.lst (ts.map V.ref)) ∧ ts.length = ps.length ∧ ∀ (j : Nat) (t : Addr) (q : Nat × Nat), ts[j]? = some t → ps[j]? = some q → H t = some (.tup [.int ((q.1 : Nat) : Int), .int ((q.2 : Nat) : Int)])
theorem PairL.same {H H' : Hp} {l : Addr} {ps : List (Nat × Nat)} (h : PairL H l ps) (q : Same H H') : PairL H' l ps := by
  obtain ⟨ts, h1, h2, h3⟩ := h
  exact ⟨ts, q _ _ h1, h2, fun j t c a b => q _ _ (h3 j t c a b)⟩
def Two (vs : List V) (z y : Str) : Prop := vs = [.str z, .str y] ∧ IsRow z ∧ IsRow y ∧ z.length ≤ 200 ∧ y.length ≤ 200
def spMeet : Sp := fun vs H Q _ => ∃ z y : Str, vs = [.str z, .str y] ∧ z.length ≤ 200 ∧ y.length ≤ 200 ∧ ∀ (l : Addr) (H' : Hp), Same H H' → H l = none → PairL H' l (mts z.cps.toList y.cps.toList) → Q (.ref l) H'
def spOnward : Sp := fun vs H Q _ => ∃ z y : Str, vs = [.str z, .str y] ∧ IsRow z ∧ IsRow y ∧ z.length ≤ 200 ∧ y.length ≤ 200 ∧ ∀ (d : Addr) (lr : Nat → Nat → Addr) (H' : Hp), Same H H' → H d = none →
  H' d = some (.dT (tabP (mts z.cps.toList y.cps.toList) fun p s => .ref (lr p s))) → (∀ p s, (p, s) ∈ mts z.cps.toList y.cps.toList → lr p s ≠ d ∧ Steps H' (lr p s) z.cps.toList y.cps.toList p s) → Q (.ref d) H'
def spManyC : Sp := fun vs H Q _ => ∃ z y : Str, vs = [.str z, .str y] ∧ IsRow z ∧ IsRow y ∧ z.length ≤ 200 ∧ y.length ≤ 200 ∧ ∀ H', Same H H' → Q (.int (cm z.cps.toList y.cps.toList)) H'
def spLongC : Sp := fun vs H Q _ => ∃ z y : Str, vs = [.str z, .str y] ∧ IsRow z ∧ IsRow y ∧ z.length ≤ 200 ∧ y.length ≤ 200 ∧ ∀ (w : Str) (H' : Hp), w.cps.toList = lg z.cps.toList y.cps.toList → Same H H' → Q (.str w) H'
def spManyL : Sp := fun vs H Q _ => ∃ z y : Str, vs = [.str z, .str y] ∧ IsRow z ∧ IsRow y ∧ z.length ≤ 200 ∧ y.length ≤ 200 ∧ ∀ H', Same H H' → Q (.int (ml z.cps.toList y.cps.toList)) H'
def optS : Option (List Nat) → V
  | none => .non
  | some w => .str ⟨w.toArray⟩
def spParts : Sp := fun vs H Q _ => ∃ z y : Str, vs = [.str z, .str y] ∧ IsRow z ∧ IsRow y ∧ z.length ≤ 200 ∧ y.length ≤ 200 ∧ ∀ (o : Option (List Nat)) (H' : Hp), IsPt z.cps.toList y.cps.toList o → Same H H' → Q (optS o) H'
end L2
set_option Elab.async false
set_option linter.all false
set_option maxRecDepth 100000
set_option maxHeartbeats 8000000
namespace Lv
open PySem L2
section
variable {P : Program} {w : World} {K : PySem.W.Frag} {mg : Str → Option Value} {base : Heap} {f : Addr} {fd : FuncData}
abbrev sMeetings : Stmt := top 4
def nMeetings : List Str := ["one", "other", "pairs", "place", "spot"]
theorem scMeetings : FnScope nMeetings ["one", "other"] (defScope sMeetings) := ⟨rfl, rfl, rfl, by decide +kernel, rfl, by decide +kernel, by decide +kernel⟩
theorem ok_meet (T : Glb mg)  (F : Fun K "meetings" "meetings" sMeetings f fd) : FnOk P w K mg base CX0 1 f fd ["one", "other"] spMeet := by
  refine F.ok scMeetings (fun vs H Q E h => ?_) (fun cdv A outer s H vs Q E hr h => ?_)
  · obtain ⟨z, y, rfl, _⟩ := h
    rfl
  obtain ⟨z, y, rfl, hz, hy, q⟩ := h
  have hu := hu_of hr
  refine' ⟨_, ?TT, ?RR⟩
  case TT =>
    refine' pss_cons ?x1 ?x2
    case x1 =>
     refine' ps_set (i := 2) scMeetings.nd rfl (Or.inl rfl) ?x3
     case x3 =>
      refine' pe_lst ?x4
      case x4 =>
       exact pa_nil
    case x2 =>
     refine' pss_cons ?x5 ?x6
     case x5 =>
      refine' ps_for PassesOwn.never rfl ?x7 (pg_name (i := 3) scMeetings.nd rfl (Or.inl rfl)) ?x8
      case x7 =>
       refine' pi_revRange rfl T.m_reversed rfl T.m_range ?x9
       case x9 =>
        refine' pa_Call ?x10 ?x11
        case x10 =>
         refine' pe_callB call_len_str rfl T.m_len PySem.boot_len ?x12
         case x12 =>
          refine' pa_Name (pv 0) ?x13
          case x13 =>
           exact pa_nil
        case x11 =>
         exact pa_nil
      case x8 =>
       refine' pss_one ?x14
       case x14 =>
        refine' ps_for PassesOwn.never rfl ?x15 (pg_name (i := 4) scMeetings.nd rfl (Or.inl rfl)) ?x16
        case x15 =>
         refine' pi_revRange rfl T.m_reversed rfl T.m_range ?x17
         case x17 =>
          refine' pa_Call ?x18 ?x19
          case x18 =>
           refine' pe_callB call_len_str rfl T.m_len PySem.boot_len ?x20
           case x20 =>
            refine' pa_Name (pv 1) ?x21
            case x21 =>
             exact pa_nil
          case x19 =>
           exact pa_nil
        case x16 =>
         refine' pss_one ?x22
         case x22 =>
          refine' ps_if ?x23 ?x24 ?x25
          case x23 =>
           refine' pt_cmpR op_eq ?x26 ?x27 (nomark _)
           case x26 =>
            exact (pe_ix ix_str (pv 0) (pv 3) (fun _ _ => rfl))
           case x27 =>
            exact (pe_ix ix_str (pv 1) (pv 4) (fun _ _ => rfl))
          case x24 =>
           refine' pss_one ?x28
           case x28 =>
            refine' ps_expr ?x29
            case x29 =>
             refine' pe_bm PySem.F.plainAttrs_list PySem.F.slot_list_append PySem.F.type_list_append mt_append (pv 2) ?x30
             case x30 =>
              refine' pa_Tuple ?x31 ?x32
              case x31 =>
               refine' pe_tup ?x33
               case x33 =>
                refine' pa_BinOp ?x34 ?x35
                case x34 =>
                 refine' pe_op op_add (pv 3) ?x36
                 case x36 =>
                  exact pe_int
                case x35 =>
                 refine' pa_BinOp ?x37 ?x38
                 case x37 =>
                  refine' pe_op op_add (pv 4) ?x39
                  case x39 =>
                   exact pe_int
                 case x38 =>
                  exact pa_nil
              case x32 =>
               exact pa_nil
          case x25 =>
           exact pss_nil
     case x6 =>
      refine' pss_cons ?x40 ?x41
      case x40 =>
       refine' ps_expr ?x42
       case x42 =>
        refine' pe_bm PySem.F.plainAttrs_list PySem.F.slot_list_append PySem.F.type_list_append mt_append (pv 2) ?x43
        case x43 =>
         refine' pa_Tuple ?x44 ?x45
         case x44 =>
          refine' pe_tup ?x46
          case x46 =>
           refine' pa_Const ?x47 ?x48
           case x47 =>
            exact pe_int
           case x48 =>
            refine' pa_Const ?x49 ?x50
            case x49 =>
             exact pe_int
            case x50 =>
             exact pa_nil
         case x45 =>
          exact pa_nil
      case x41 =>
       refine' pss_one ?x51
       case x51 =>
        exact (ps_ret (pv 2))
  case RR =>
    have ez := len_cps z
    have ey := len_cps y
    refine ⟨Nat.zero_le _, fun m nm => ?_⟩
    generalize jm : upd _ m _ = H1
    have s1 := upS jm nm; have e1 := upE jm
    refine ⟨_, rfl, z, rfl, small80 (by omega), (z.length : Int), rfl, by omega, by omega, ?_⟩
    have elz : ((z.length : Int)).toNat = z.cps.toList.length := by omega
    rw [elz]
    refine for_rangeC (lo := (z.length : Int) - 1) (c := -1) (n := z.cps.toList.length) (fun t σ H2 => ∃ v3 v4 : Option V, σ = [some (.str z), some (.str y), some (.ref m), v3, v4] ∧ Same H H2 ∧ PairL H2 m (mall z.cps.toList y.cps.toList t)) ?_ ?_ ?_
    · exact ⟨_, _, rfl, s1, [], e1, rfl, fun j t q h => by simp at h⟩
    · rintro t σ H2 ht ⟨v3, v4, rfl, s2, hp2⟩
      obtain ⟨pl, hpl⟩ : ∃ pl : Nat, pl = z.cps.toList.length - 1 - t := ⟨_, rfl⟩
      have ei : (z.length : Int) - 1 + (t : Nat) * (-1) = (pl : Int) := by omega
      rw [ei]
      refine ⟨_, rfl, y, rfl, small80 (by omega), (y.length : Int), rfl, by omega, by omega, ?_⟩
      have ely : ((y.length : Int)).toNat = y.cps.toList.length := by omega
      rw [ely]
      refine for_rangeC (lo := (y.length : Int) - 1) (c := -1) (n := y.cps.toList.length) (fun u σ H3 => ∃ v4 : Option V, σ = [some (.str z), some (.str y), some (.ref m), some (.int (pl : Int)), v4] ∧ Same H H3 ∧ PairL H3 m (mall z.cps.toList y.cps.toList t ++ mrow z.cps.toList y.cps.toList pl u)) ?_ ?_ ?_
      · refine ⟨_, rfl, s2, ?_⟩
        show PairL H2 m (_ ++ [])
        rw [List.append_nil]
        exact hp2
      · rintro u σ H3 hu3 ⟨v4, rfl, s3, hp3⟩
        obtain ⟨sl, hsl⟩ : ∃ sl : Nat, sl = y.cps.toList.length - 1 - u := ⟨_, rfl⟩
        have ei2 : (y.length : Int) - 1 + (u : Nat) * (-1) = (sl : Int) := by omega
        rw [ei2]
        obtain ⟨c, hc⟩ : ∃ c, z.cps.toList[pl]? = some c := ⟨_, List.getElem?_eq_getElem (by omega)⟩
        obtain ⟨d, hd⟩ : ∃ d, y.cps.toList[sl]? = some d := ⟨_, List.getElem?_eq_getElem (by omega)⟩
        refine ⟨_, rfl, _, rfl, z, _, c, rfl, rfl, small80 (by omega), atI_nat hc, _, rfl, _, rfl, y, _, d, rfl, rfl, small80 (by omega), atI_nat hd, rfl, _, rfl, ?_⟩
        rw [mrow_succ, ← hsl, hc, hd]
        by_cases ecd : c = d
        · subst ecd
          rw [decide_eq_true rfl]
          refine iteT ?_
          rw [if_pos rfl]
          obtain ⟨ts, h1, h2, h3⟩ := id hp3
          refine ⟨_, rfl, .inl ⟨rfl, _, SqL.of h1⟩, _, rfl, _, _, rfl, rfl, _, rfl, _, _, rfl, rfl, (by show 2 ≤ sizeLine; decide), fun tt nt => ?_⟩
          have ntm : tt ≠ m := (ne_of_none h1 nt).symm
          have h1' : upd H3 tt (.tup [.int ((pl : Int) + 1), .int ((sl : Int) + 1)]) m = some (.lst (ts.map V.ref)) := by rw [upd_ne ntm.symm]; exact h1
          have lts : ts.length ≤ 60000 := by
            rw [h2, List.length_append]
            have h5 := mall_le (xs := z.cps.toList) (ys := y.cps.toList) (by omega) (by omega) (t := t) (by omega)
            have h6 := mrow_len z.cps.toList y.cps.toList pl u
            omega
          refine ⟨m, _, _, rfl, rfl, h1', by rw [List.length_map]; exact small5 (by omega), ?_⟩
          refine ⟨_, rfl, fun b o e => ?_, ts ++ [tt], by rw [upd_same, List.map_append]; rfl, by have h7 := h2; simp only [List.length_append, List.length_cons, List.length_nil] at h7 ⊢; omega, fun j t' q' hj hq' => ?_⟩
          · have hm : H m = none := nm
            rw [upd_ne (ne_of_none e hm), upd_ne (fun z => by rw [z] at e; have := s3 _ _ e; rw [nt] at this; cases this)]
            exact s3 _ _ e
          · rw [← List.append_assoc] at hq'
            rcases snoc_get hj with hj | ⟨rfl, rfl⟩
            · have hjl := (List.getElem?_eq_some_iff.mp hj).1
              rw [List.getElem?_append_left (by rw [← h2]; exact hjl)] at hq'
              have h4 := h3 j t' q' hj hq'
              rw [upd_ne (ne_of h4 h1 (by intro z; cases z)), upd_ne (ne_of_none h4 nt)]
              exact h4
            · rw [h2, List.getElem?_concat_length] at hq'
              cases hq'
              rw [upd_ne ntm, upd_same]
              have g1 : ((pl + 1 : Nat) : Int) = (pl : Int) + 1 := by omega
              have g2 : ((y.cps.toList.length - u : Nat) : Int) = (sl : Int) + 1 := by omega
              show _ = some (HO.tup [.int ((pl + 1 : Nat) : Int), .int ((y.cps.toList.length - u : Nat) : Int)])
              rw [g1, g2]
        · have ne : ¬ (V.str ⟨#[c]⟩ = V.str ⟨#[d]⟩) := fun h => ecd (sg_inj' (V.str.inj h))
          rw [decide_eq_false ne]
          refine iteF ?_
          rw [if_neg (fun h => ecd (Option.some.inj h)), List.append_nil]
          exact ⟨_, rfl, s3, hp3⟩
      · rintro σ H3 ⟨v4, rfl, s3, hp3⟩
        refine ⟨_, _, rfl, s3, ?_⟩
        rw [mall_succ, ← hpl]
        exact hp3
    · rintro σ H2 ⟨v3, v4, rfl, s2, ts, h1, h2, h3⟩
      refine ⟨_, rfl, .inl ⟨rfl, _, SqL.of h1⟩, (by show 2 ≤ sizeLine; decide), fun tt nt => ?_⟩
      have ntm : tt ≠ m := (ne_of_none h1 nt).symm
      have h1' : upd H2 tt (.tup [.int 0, .int 0]) m = some (.lst (ts.map V.ref)) := by rw [upd_ne ntm.symm]; exact h1
      have lts : ts.length ≤ 60000 := by
        rw [h2]
        have h5 := mall_le (xs := z.cps.toList) (ys := y.cps.toList) (by omega) (by omega) (t := z.cps.toList.length) (Nat.le_refl _)
        omega
      refine ⟨m, _, _, rfl, rfl, h1', by rw [List.length_map]; exact small5 (by omega), ?_⟩
      refine ⟨_, rfl, q m _ (fun b o e => ?_) nm ⟨ts ++ [tt], by rw [upd_same, List.map_append]; rfl, by unfold mts; rw [List.length_append, List.length_append, h2]; rfl, fun j t' q' hj hq' => ?_⟩⟩
      · rw [upd_ne (ne_of_none e nm), upd_ne (fun z => by rw [z] at e; have := s2 _ _ e; rw [nt] at this; cases this)]
        exact s2 _ _ e
      · unfold mts at hq'
        rcases snoc_get hj with hj | ⟨rfl, rfl⟩
        · have hjl := (List.getElem?_eq_some_iff.mp hj).1
          rw [List.getElem?_append_left (by rw [← h2]; exact hjl)] at hq'
          have h4 := h3 j t' q' hj hq'
          rw [upd_ne (ne_of h4 h1 (by intro z; cases z)), upd_ne (ne_of_none h4 nt)]
          exact h4
        · rw [h2, List.getElem?_concat_length] at hq'
          cases hq'
          rw [upd_ne ntm, upd_same]
          rfl
end
end Lv
set_option Elab.async false
set_option linter.all false
set_option maxRecDepth 100000
set_option maxHeartbeats 8000000
namespace Lv
open PySem L2
section
variable {P : Program} {w : World} {K : PySem.W.Frag} {mg : Str → Option Value} {base : Heap} {f : Addr} {fd : FuncData}
abbrev sOnward : Stmt := top 3
def nOnward : List Str := ["one", "other", "one_table", "other_table", "letters", "found", "place", "spot", "heads", "tails", "letter"]
theorem scOnward : FnScope nOnward ["one", "other"] (defScope sOnward) := ⟨rfl, rfl, rfl, by decide +kernel, rfl, by decide +kernel, by decide +kernel⟩
theorem ok_onward (T : Glb mg) (c_next_table : Callee P w K mg base 1 "next_table" ["row"] spTabX) (c_meetings : Callee P w K mg base 1 "meetings" ["one", "other"] spMeet) (F : Fun K "onward" "onward" sOnward f fd) : FnOk P w K mg base CX0 2 f fd ["one", "other"] spOnward := by
  refine F.ok scOnward (fun vs H Q E h => ?_) (fun cdv A outer s H vs Q E hr h => ?_)
  · obtain ⟨z, y, rfl, _⟩ := h
    rfl
  obtain ⟨z, y, rfl, rz, ry, hz, hy, q⟩ := h
  have hu := hu_of hr
  refine' ⟨_, ?TT, ?RR⟩
  case TT =>
    refine' pss_cons ?x52 ?x53
    case x52 =>
     refine' ps_set (i := 2) scOnward.nd rfl (Or.inl rfl) ?x54
     case x54 =>
      refine' pe_callC c_next_table hr rfl ?x55
      case x55 =>
       refine' pa_Name (pv 0) ?x56
       case x56 =>
        exact pa_nil
    case x53 =>
     refine' pss_cons ?x57 ?x58
     case x57 =>
      refine' ps_set (i := 3) scOnward.nd rfl (Or.inl rfl) ?x59
      case x59 =>
       refine' pe_callC c_next_table hr rfl ?x60
       case x60 =>
        refine' pa_Name (pv 1) ?x61
        case x61 =>
         exact pa_nil
     case x58 =>
      refine' pss_cons ?x62 ?x63
      case x62 =>
       refine' ps_set (i := 4) scOnward.nd rfl (Or.inl rfl) ?x64
       case x64 =>
        refine' pe_callB (cr_sortedC rfl) rfl T.m_sorted (by decide +kernel) ?x65
        case x65 =>
         refine' pa_BinOp ?x66 ?x67
         case x66 =>
          refine' pe_op op_andSet ?x68 ?x69
          case x68 =>
           refine' pe_callTy (cr_setS rfl) rfl T.m_set (by decide +kernel) ?x70
           case x70 =>
            refine' pa_Name (pv 0) ?x71
            case x71 =>
             exact pa_nil
          case x69 =>
           refine' pe_callTy (cr_setS rfl) rfl T.m_set (by decide +kernel) ?x72
           case x72 =>
            refine' pa_Name (pv 1) ?x73
            case x73 =>
             exact pa_nil
         case x67 =>
          exact pa_nil
      case x63 =>
       refine' pss_cons ?x74 ?x75
       case x74 =>
        refine' ps_set (i := 5) scOnward.nd rfl (Or.inl rfl) ?x76
        case x76 =>
         exact pe_dnewT
       case x75 =>
        refine' pss_cons ?x77 ?x78
        case x77 =>
         refine' ps_for PassesOwn.never rfl ?x79 (pg_tup rfl (pgs_cons (pg_name (i := 6) scOnward.nd rfl (Or.inl rfl)) (pgs_cons (pg_name (i := 7) scOnward.nd rfl (Or.inl rfl)) pgs_nil))) ?x80
         case x79 =>
          refine' pi_list ?x81
          case x81 =>
           refine' pe_callC c_meetings hr rfl ?x82
           case x82 =>
            refine' pa_Name (pv 0) ?x83
            case x83 =>
             refine' pa_Name (pv 1) ?x84
             case x84 =>
              exact pa_nil
         case x80 =>
          refine' pss_cons ?x85 ?x86
          case x85 =>
           refine' ps_set (i := 8) scOnward.nd rfl (Or.inr rfl) ?x87
           case x87 =>
            exact (pe_ix ix_list (pv 2) (pv 6) (fun _ _ => rfl))
          case x86 =>
           refine' pss_cons ?x88 ?x89
           case x88 =>
            refine' ps_set (i := 9) scOnward.nd rfl (Or.inr rfl) ?x90
            case x90 =>
             exact (pe_ix ix_list (pv 3) (pv 7) (fun _ _ => rfl))
           case x89 =>
            refine' pss_one ?x91
            case x91 =>
             refine' ps_dput hu (pv 5) ?x92 ?x93 rfl
             case x92 =>
              refine' pe_tup ?x94
              case x94 =>
               refine' pa_Name (pv 6) ?x95
               case x95 =>
                refine' pa_Name (pv 7) ?x96
                case x96 =>
                 exact pa_nil
             case x93 =>
              refine' pe_lc (own := [("letter", 10)]) (g := gName 10) (by rfl) scOnward.nd ?x97 (blkOk_by (own := [("letter", 10)]) (N := nOnward) (sc := defScope sOnward) (by decide +kernel)) (fun _ _ _ _ _ => pg_name (i := 10) scOnward.nd rfl (Or.inl rfl)) ?x98 ?x99
              case x97 =>
               exact (pi_list (pv 4))
              case x98 =>
               intro _ _ _ _ _
               exact pts_one (PW.pt (pw_and (pt_cmp (pc_din hu (pv 10) (pv 8))) (pw_and1 (pt_cmp (pc_din hu (pv 10) (pv 9))))))
              case x99 =>
               intro _ _ _ _ _
               refine' pe_tup ?x100
               case x100 =>
                refine' pa_BinOp ?x101 ?x102
                case x101 =>
                 refine' pe_op op_add ?x103 ?x104
                 case x103 =>
                  exact (pe_dget hu (pv 8) (pv 10) (fun _ _ => rfl))
                 case x104 =>
                  exact pe_int
                case x102 =>
                 refine' pa_BinOp ?x105 ?x106
                 case x105 =>
                  refine' pe_op op_add ?x107 ?x108
                  case x107 =>
                   exact (pe_dget hu (pv 9) (pv 10) (fun _ _ => rfl))
                  case x108 =>
                   exact pe_int
                 case x106 =>
                  exact pa_nil
        case x78 =>
         refine' pss_one ?x109
         case x109 =>
          exact (ps_ret (pv 5))
  case RR =>
    have ez := len_cps z
    have ey := len_cps y
    refine ⟨_, rfl, z, rfl, hz, fun ta ra H1 s1 nta hta hTa => ?_⟩
    refine ⟨_, rfl, y, rfl, hy, fun tb rb H2 s2 ntb htb hTb => ?_⟩
    refine ⟨_, rfl, z, rfl, by omega, fun S1 n1 => ?_⟩
    generalize j1 : upd _ S1 _ = H3
    have s3 := upS j1 n1; have e3 := upE j1
    refine ⟨_, rfl, y, rfl, by omega, fun S2 n2 => ?_⟩
    have n12 : S1 ≠ S2 := ne_of_none e3 n2
    generalize j2 : upd _ S2 _ = H4
    have s4 := upS j2 n2; have e4 := upE j2
    have bnd : ∀ (u : Str), u.length ≤ 200 → ∀ c : List Nat, c.Nodup → (∀ d ∈ c, d ∈ u.cps.toList) → c.length < 3900 := fun u h c hn hs => by
      have := nodup_len hn hs
      have := len_cps u
      omega
    refine ⟨S1, S2, _, _, rfl, rfl, n12, s4 _ _ e3, e4, bnd z hz, bnd y hy, fun S3 n3 => ?_⟩
    generalize j3 : upd _ S3 _ = H5
    have s5 := upS j3 n3; have e5 := upE j3
    refine ⟨S3, _, rfl, e5, fun ds hn hs => ?_, fun lp ds nlp hpw hin => ?_⟩
    · have h26 : ds.length ≤ ab.length := nodup_len hn fun d hd => mem_ab.mpr (rz d (List.mem_filter.mp (hs d hd)).1)
      have : ab.length = 26 := by unfold ab; rw [List.length_range']
      omega
    generalize j6 : upd _ lp _ = H6
    have s6 := upS j6 nlp; have e6 := upE j6
    have hds : ∀ c, c ∈ ds ↔ c ∈ z.cps.toList ∧ c ∈ y.cps.toList := fun c => by
      rw [hin c, List.mem_filter, decide_eq_true_eq]
    refine fun fd nfd => ?_
    generalize j7 : upd _ fd _ = H7
    have s7 := upS j7 nfd; have e7 := upE j7
    refine ⟨_, rfl, _, rfl, z, y, rfl, hz, hy, fun ml H8 s8 nml hml => ?_⟩
    have hml0 := hml
    obtain ⟨ts, h1, h2, h3⟩ := hml
    refine ⟨ml, rfl, ⟨_, SqL.of h1⟩, ?_⟩
    have s28 : Same H2 H8 := s3.trans (s4.trans (s5.trans (s6.trans (s7.trans s8))))
    have s08 : Same H H8 := s1.trans (s2.trans s28)
    have nfd0 : H fd = none := (s1.trans (s2.trans (s3.trans (s4.trans (s5.trans s6))))).free nfd
    have e78 : H8 fd = some (.dT []) := s8 _ _ e7
    have hta8 := (s2.trans s28) _ _ hta
    have htb8 := s28 _ _ htb
    have hTa8 := hTa.same (s2.trans s28)
    have hTb8 := hTb.same s28
    have e68 : H8 lp = some (.lst ((ds.map sg).map V.str)) := s8 _ _ (s7 _ _ e6)
    have dlen : ds.length ≤ 26 := by
      have h26 : ds.length ≤ ab.length := nodup_len (hpw.imp fun a => Nat.ne_of_lt a) fun d hd => mem_ab.mpr (rz d ((hds d).mp hd).1)
      have : ab.length = 26 := by unfold ab; rw [List.length_range']
      omega
    have hlm := mts_len (xs := z.cps.toList) (ys := y.cps.toList) (by omega) (by omega)
    refine for_list (xs := ts.map V.ref) (fun i σ H9 => ∃ (v6 v7 v8 v9 : Option V) (lr : Nat → Nat → Addr), σ = [some (.str z), some (.str y), some (.ref ta), some (.ref tb), some (.ref lp), some (.ref fd), v6, v7, v8, v9, none] ∧ Kp fd H8 H9 ∧
      H9 fd = some (.dT (tabP ((mts z.cps.toList y.cps.toList).take i) fun p s => .ref (lr p s))) ∧ ∀ p s, (p, s) ∈ (mts z.cps.toList y.cps.toList).take i → lr p s ≠ fd ∧ Steps H9 (lr p s) z.cps.toList y.cps.toList p s) ?_ ?_ ?_ ?_
    · refine ⟨none, none, none, none, fun _ _ => fd, rfl, Kp.refl _ _, ?_, fun p s h => ?_⟩
      · exact e78
      · rw [List.take_zero] at h; cases h
    · rintro i σ H9 hi ⟨v6, v7, v8, v9, lr, rfl, k9, hf9, hl9⟩
      exact SqL.of (k9 _ _ h1 (ne_of h1 e78 (by intro z; cases z)))
    · rintro i x σ H9 hx ⟨v6, v7, v8, v9, lr, rfl, k9, hf9, hl9⟩
      rw [List.getElem?_map] at hx
      obtain ⟨t, ht, rfl⟩ := Option.map_eq_some_iff.mp hx
      obtain ⟨⟨p, s⟩, hps⟩ : ∃ q, (mts z.cps.toList y.cps.toList)[i]? = some q := ⟨_, List.getElem?_eq_getElem (by rw [← h2]; exact (List.getElem?_eq_some_iff.mp ht).1)⟩
      have htt := h3 i t (p, s) ht hps
      have nt : t ≠ fd := ne_of htt e78 (by intro z; cases z)
      have hmem := mem_mts.mp (List.mem_of_getElem? hps)
      have hpl : p ≤ z.cps.toList.length := by rcases hmem with ⟨h, _⟩ | ⟨_, h, _⟩ <;> omega
      have hsl : s ≤ y.cps.toList.length := by rcases hmem with ⟨_, h⟩ | ⟨_, _, _, h, _⟩ <;> omega
      refine ⟨t, _, rfl, SqT.of (k9 _ _ htt nt), rfl, ?_⟩
      refine ⟨_, _, rfl, _, _, rfl, rfl, ?_⟩
      obtain ⟨r1, hr1⟩ : ∃ r, ra[p]? = some r := ⟨_, List.getElem?_eq_getElem (by rw [hTa.len]; omega)⟩
      obtain ⟨r2, hr2⟩ : ∃ r, rb[s]? = some r := ⟨_, List.getElem?_eq_getElem (by rw [hTb.len]; omega)⟩
      have nfT : ∀ (a : Addr) (o : HO), H2 a = some o → a ≠ fd := fun a o e => ne_of_none e ((s3.trans (s4.trans (s5.trans s6))).free nfd)
      have up9 : ∀ (a : Addr) (o : HO), H2 a = some o → H9 a = some o := fun a o e => k9 _ _ (s28 _ _ e) (nfT a o e)
      have hd1 : H9 r1 = some (.dK (entK (z.cps.toList.drop p) p)) := up9 _ _ (s2 _ _ (hTa.at_ p r1 hr1))
      have hd2 : H9 r2 = some (.dK (entK (y.cps.toList.drop s) s)) := up9 _ _ (hTb.at_ s r2 hr2)
      have hlp9 : H9 lp = some (.lst ((ds.map sg).map V.str)) := k9 _ _ e68 (ne_of e68 e78 (by intro z; cases z))
      refine ⟨_, rfl, _, rfl, ta, _, _, .ref r1, rfl, rfl, SqL.of (up9 _ _ (s2 _ _ hta)), atI_nat (by rw [List.getElem?_map, hr1]; rfl), ?_⟩
      refine ⟨_, rfl, _, rfl, tb, _, _, .ref r2, rfl, rfl, SqL.of (up9 _ _ htb), atI_nat (by rw [List.getElem?_map, hr2]; rfl), ?_⟩
      refine ⟨_, rfl, lp, rfl, ⟨_, SqL.of hlp9⟩, fun D nD => ?_⟩
      have hDn : H8 D = none := by
        cases e : H8 D with
        | none => rfl
        | some o =>
          by_cases hDf : D = fd
          · rw [hDf, hf9] at nD; cases nD
          · have := k9 _ _ e hDf
            rw [nD] at this; cases this
      refine lc_list (K := K) (a := lp) (xs := (ds.map sg).map V.str) (fun j HA => Same H9 HA ∧ ∃ tt : List Addr, HA D = some (.lst (tt.map V.ref)) ∧ tt.length = ((ds.take j).filter fun c => decide (c ∈ z.cps.toList.drop p) && decide (c ∈ y.cps.toList.drop s)).length ∧
        ∀ (i : Nat) (t : Addr) (c : Nat), tt[i]? = some t → ((ds.take j).filter fun c => decide (c ∈ z.cps.toList.drop p) && decide (c ∈ y.cps.toList.drop s))[i]? = some c → HA t = some (.tup [.int ((nx c p z.cps.toList : Nat) : Int), .int ((nx c s y.cps.toList : Nat) : Int)])) ?_ ?_ ?_ ?_
      · exact ⟨same_new nD _, [], upd_same, rfl, fun i t c h => by simp at h⟩
      · rintro j HA _ ⟨sA, _⟩
        exact SqL.of (sA _ _ hlp9)
      · rintro j x HA hx ⟨sA, tt, hD, htl, htt2⟩
        rw [List.getElem?_map, List.getElem?_map] at hx
        obtain ⟨x0, hx0, rfl⟩ := Option.map_eq_some_iff.mp hx
        obtain ⟨c, hc, rfl⟩ := Option.map_eq_some_iff.mp hx0
        refine ⟨rfl, ?_⟩
        have hin1 : ∀ (xs : List Nat) (p : Nat), (valV (entK (xs.drop p) p) (Sum.inr (sg c))).isSome = decide (c ∈ xs.drop p) := fun xs p => by rw [entK_val, Option.isSome_map, idx_in]
        rw [take_snoc hc, List.filter_append, List.filter_cons]
        refine ⟨_, rfl, _, rfl, r1, _, rfl, DGet.k (k := Sum.inr (sg c)) (sA _ _ hd1), _, rfl, ?_⟩
        rw [hin1 z.cps.toList p]
        by_cases h1c : c ∈ z.cps.toList.drop p
        · rw [decide_eq_true h1c]
          refine iteT ?_
          refine ⟨_, rfl, _, rfl, r2, _, rfl, DGet.k (k := Sum.inr (sg c)) (sA _ _ hd2), _, rfl, ?_⟩
          rw [hin1 y.cps.toList s]
          by_cases h2c : c ∈ y.cps.toList.drop s
          · rw [decide_eq_true h2c]
            refine iteT ?_
            have nx1 := nx_of h1c
            have nx2 := nx_of h2c
            refine ⟨_, rfl, _, rfl, r1, _, rfl, by rw [← nx1.2.2.2.2]; exact DGet.k (k := Sum.inr (sg c)) (sA _ _ hd1), _, _, rfl, rfl, ?_⟩
            refine ⟨_, rfl, _, rfl, r2, _, rfl, by rw [← nx2.2.2.2.2]; exact DGet.k (k := Sum.inr (sg c)) (sA _ _ hd2), _, _, rfl, rfl, ?_⟩
            refine ⟨(by show 2 ≤ sizeLine; decide), fun tn ntn => ?_⟩
            have ntD : tn ≠ D := (ne_of_none hD ntn).symm
            have hD' : upd HA tn (.tup [.int ((nx c p z.cps.toList : Nat) - 1 + 1 : Int), .int ((nx c s y.cps.toList : Nat) - 1 + 1 : Int)]) D = some (.lst (tt.map V.ref)) := by rw [upd_ne ntD.symm]; exact hD
            refine ⟨_, hD', by rw [List.length_map, htl]; exact Nat.lt_of_le_of_lt (List.length_filter_le _ _) (by rw [List.length_take]; exact small5 (by omega)), ?_⟩
            refine ⟨fun b o e => ?_, tt ++ [tn], by rw [upd_same, List.map_append]; rfl, by rw [List.length_append, List.length_append, htl]; rfl, fun i t c' hi hc' => ?_⟩
            · rw [upd_ne (ne_of_none e nD), upd_ne (fun z => by rw [z] at e; have := sA _ _ e; rw [ntn] at this; cases this)]
              exact sA _ _ e
            · rcases snoc_get hi with hi | ⟨rfl, rfl⟩
              · have hil := (List.getElem?_eq_some_iff.mp hi).1
                rw [List.getElem?_append_left (by rw [← htl]; exact hil)] at hc'
                have h4 := htt2 i t c' hi hc'
                rw [upd_ne (ne_of h4 hD (by intro z; cases z)), upd_ne (ne_of_none h4 ntn)]
                exact h4
              · rw [htl] at hc'
                have hc2 : (((ds.take j).filter fun c => decide (c ∈ z.cps.toList.drop p) && decide (c ∈ y.cps.toList.drop s)) ++ [c])[((ds.take j).filter fun c => decide (c ∈ z.cps.toList.drop p) && decide (c ∈ y.cps.toList.drop s)).length]? = some c' := hc'
                rw [List.getElem?_concat_length] at hc2
                cases hc2
                rw [upd_ne ntD, upd_same]
                show some (HO.tup [V.int (((nx c p z.cps.toList : Nat) : Int) - 1 + 1), V.int (((nx c s y.cps.toList : Nat) : Int) - 1 + 1)]) = _
                rw [Int.sub_add_cancel, Int.sub_add_cancel]
          · rw [decide_eq_false h2c]
            refine iteF ?_
            have e0 : ∀ l : List Nat, l ++ (if (true && false) = true then [c] else ([] : List Nat)) = l := fun l => List.append_nil l
            refine ⟨sA, tt, hD, ?_, ?_⟩
            · rw [htl]; congr 1; exact (e0 _).symm
            · intro i t c' hi hc'
              exact htt2 i t c' hi (by rw [← hc']; congr 1; exact (e0 _).symm)
        · rw [decide_eq_false h1c]
          refine iteF ?_
          refine iteF ?_
          have e0 : ∀ (b : Bool) (l : List Nat), l ++ (if (false && b) = true then [c] else ([] : List Nat)) = l := fun b l => List.append_nil l
          refine ⟨sA, tt, hD, ?_, ?_⟩
          · rw [htl]; congr 1; exact (e0 _ _).symm
          · intro i t c' hi hc'
            exact htt2 i t c' hi (by rw [← hc']; congr 1; exact (e0 _ _).symm)
      rintro HA ⟨sA, tt, hD, htl, htt2⟩
      rw [List.length_map, List.length_map, List.take_length, bo_of hpw (fun c h1 h2 => (hds c).mpr ⟨List.mem_of_mem_drop h1, List.mem_of_mem_drop h2⟩) (rz.ab.drop p)] at htl htt2
      have hSt : Steps HA D z.cps.toList y.cps.toList p s := ⟨tt, hD, htl, htt2⟩
      refine ⟨_, rfl, _, rfl, _, rfl, (by show 2 ≤ sizeLine; decide), fun tk ntk => ?_⟩
      generalize jk : upd _ tk _ = HB
      have sB := upS jk ntk; have eB := upE jk
      have hfB : HB fd = _ := sB _ _ (sA _ _ hf9)
      have hnot := nd_take (mts_nd z.cps.toList y.cps.toList) hps
      refine ⟨fd, _, rfl, DPut.t (k := sk p s) hfB eB (by rw [tabP_len, List.length_take]; exact small5 (by omega)), ?_⟩
      have nDf : D ≠ fd := by
        intro z
        rw [z, hf9] at nD
        cases nD
      obtain ⟨lr', hlr'⟩ : ∃ lr' : Nat → Nat → Addr, lr' = fun a b => if a = p ∧ b = s then D else lr a b := ⟨_, rfl⟩
      have e1 : tabP ((mts z.cps.toList y.cps.toList).take i) (fun p s => .ref (lr p s)) = tabP ((mts z.cps.toList y.cps.toList).take i) (fun p s => .ref (lr' p s)) := tabP_congr fun a b hab => by
        rw [hlr']
        show V.ref (lr a b) = V.ref (if _ then _ else _)
        rw [if_neg (by rintro ⟨rfl, rfl⟩; exact hnot hab)]
      have e2 : lr' p s = D := by rw [hlr']; exact if_pos ⟨rfl, rfl⟩
      rw [e1, tabP_put hnot (.ref D) (by rw [e2]), ← take_snoc hps]
      have kC : Kp fd HB (upd HB fd (.dT (tabP ((mts z.cps.toList y.cps.toList).take (i + 1)) fun p s => .ref (lr' p s)))) := (Kp.refl _ _).set
      have k9C : Kp fd H9 (upd HB fd (.dT (tabP ((mts z.cps.toList y.cps.toList).take (i + 1)) fun p s => .ref (lr' p s)))) := ((sA.trans sB).kp fd).trans kC
      refine ⟨_, _, _, _, lr', rfl, k9.trans k9C, upd_same, fun a b hab => ?_⟩
      rw [take_snoc hps] at hab
      have keepS : ∀ {Ha : Hp} {l : Addr} {a b : Nat}, l ≠ fd → (∃ kvs, Ha fd = some (.dT kvs)) → Kp fd Ha (upd HB fd (.dT (tabP ((mts z.cps.toList y.cps.toList).take (i + 1)) fun p s => .ref (lr' p s)))) → Steps Ha l z.cps.toList y.cps.toList a b → Steps (upd HB fd (.dT (tabP ((mts z.cps.toList y.cps.toList).take (i + 1)) fun p s => .ref (lr' p s)))) l z.cps.toList y.cps.toList a b := by
        rintro Ha l a b hl ⟨kvs, hk⟩ kk ⟨us, g1, g2, g3⟩
        exact ⟨us, kk _ _ g1 hl, g2, fun j t c q1 q2 => kk _ _ (g3 j t c q1 q2) (ne_of (g3 j t c q1 q2) hk (by intro z; cases z))⟩
      rcases List.mem_append.mp hab with hab2 | hab2
      · have hne : ¬ (a = p ∧ b = s) := by rintro ⟨e1, e2⟩; rw [e1, e2] at hab2; exact hnot hab2
        have e3 : lr' a b = lr a b := by rw [hlr']; exact if_neg hne
        rw [e3]
        obtain ⟨g1, g2⟩ := hl9 a b hab2
        exact ⟨g1, keepS g1 ⟨_, hf9⟩ k9C g2⟩
      · cases List.mem_singleton.mp hab2
        rw [e2]
        exact ⟨nDf, keepS nDf ⟨_, sA _ _ hf9⟩ ((sB.kp fd).trans kC) hSt⟩
    · rintro σ H9 ⟨v6, v7, v8, v9, lr, rfl, k9, hf9, hl9⟩
      have htk : (mts z.cps.toList y.cps.toList).take (ts.map V.ref).length = mts z.cps.toList y.cps.toList := List.take_of_length_le (by rw [List.length_map, h2]; exact Nat.le_refl _)
      rw [htk] at hf9 hl9
      refine ⟨_, rfl, q fd lr H9 (fun b o e => ?_) nfd0 hf9 hl9⟩
      exact k9 _ _ (s08 _ _ e) (ne_of_none e nfd0)
end
end Lv
set_option Elab.async false
set_option linter.all false
set_option maxRecDepth 100000
set_option maxHeartbeats 1600000
namespace L2
open PySem
def lastB (x : Nat) (w : List Nat) : Bool := decide (w.getLast? = some x)
theorem AB.snoc {xs : List Nat} {x : Nat} (h : AB (xs ++ [x])) : AB xs := fun c hc => h c (List.mem_append_left _ hc)
theorem AB.bef {xs r : List Nat} {x : Nat} (h : AB xs) (e : bef x xs = some r) : AB r := fun c hc => h c (bef_sub e c hc)
def spAllD : Sp := fun vs H Q _ => ∃ z : Str, vs = [.str z] ∧ IsRow z ∧ z.length ≤ 12 ∧ ∀ (m : Addr) (ks : List Str) (H' : Hp), Same H H' → H m = none → H' m = some (.dK (ofK ks)) → (ks.map fun w => w.cps.toList).Nodup → ks.length ≤ 4096 → (∀ w ∈ ks, IsRow w) → (∀ x, x ∈ (ks.map fun w => w.cps.toList) ↔ x.Sublist z.cps.toList) → Q (.ref m) H'
def spTwo : Sp := fun vs H Q _ => ∃ (p : Addr) (k : Int), vs = [.ref p, .int k] ∧ HandAt H p ∧ ∀ (m : Addr) (z y : Str) (H' : Hp), m ≠ p → H m = none → H' m = some (.lst [.str z, .str y]) → IsRow z → IsRow y → z.length ≤ 80 → y.length ≤ 80 → HandAt H' p → Kp p H H' → Q (.ref m) H'
def spDueC : Sp := fun vs H Q _ => ∃ z y : Str, vs = [.str z, .str y] ∧ IsRow z ∧ IsRow y ∧ z.length ≤ 80 ∧ y.length ≤ 80 ∧ ∀ H', Same H H' → Q (.int (cm z.cps.toList y.cps.toList)) H'
end L2
set_option Elab.async false
set_option linter.all false
set_option maxRecDepth 100000
set_option maxHeartbeats 1600000
namespace L2
open PySem
def toS (w : List Nat) : Str := ⟨w.toArray⟩
theorem toS_cps (w : List Nat) : (toS w).cps.toList = w := by simp [toS]
theorem toS_len (w : List Nat) : (toS w).length = w.length := by rw [len_cps, toS_cps]
end L2
namespace L2
open PySem
def better (u v : List Nat) : List Nat := if v.length > u.length ∨ (v.length = u.length ∧ v < u) then v else u
end L2
set_option Elab.async false
set_option linter.all false
set_option maxRecDepth 100000
set_option maxHeartbeats 1600000
namespace L2
open PySem
def bf (c : Nat) (xs : List Nat) : List Nat := (bef c xs).getD []
theorem AB.rev {xs : List Nat} (h : AB xs) : AB xs.reverse := fun c hc => h c (List.mem_reverse.mp hc)
def laK (xs : List Nat) : Nat → List (Key × V)
  | 0 => []
  | j + 1 => match xs[j]? with
    | some c => putK (laK xs j) (Sum.inr (sg c)) (.int ((j : Nat) : Int))
    | none => laK xs j
def spLasts : Sp := fun vs H Q _ => ∃ z : Str, vs = [.str z] ∧ z.length ≤ 80 ∧ ∀ (l : Addr) (rs : List Addr) (H' : Hp), Same H H' → H l = none → H' l = some (.lst (rs.map V.ref)) → rs.length = z.cps.toList.length + 1 → (∀ (j : Nat) (r : Addr), rs[j]? = some r → H r = none ∧ H' r = some (.dK (laK z.cps.toList j))) → Q (.ref l) H'
def spDueM : Sp := fun vs H Q _ => ∃ z y : Str, vs = [.str z, .str y] ∧ IsRow z ∧ IsRow y ∧ z.length ≤ 80 ∧ y.length ≤ 80 ∧ ∀ H', Same H H' → Q (.int (ml z.cps.toList y.cps.toList)) H'
end L2
set_option Elab.async false
set_option linter.all false
set_option maxRecDepth 100000
set_option maxHeartbeats 1600000
namespace L2
open PySem
def Aln (xs ys : List Nat) : Option Nat → Prop
  | none => ∀ c ∈ xs, c ∈ ys
  | some c => c ∈ xs ∧ c ∉ ys ∧ ∀ d ∈ xs, d ∉ ys → c ≤ d
def aV : Option Nat → V
  | none => .non
  | some c => .str (sg c)
theorem aln_pt {xs ys : List Nat} {c : Nat} (h : Aln xs ys (some c)) : IsPt xs ys (some [c]) := pt_alone h.1 h.2.1 h.2.2
theorem cons_toS (c : Nat) (w : List Nat) : sg c ++ toS w = toS (c :: w) := str_ext (by rw [app_cps, toS_cps, toS_cps]; rfl)
def goOn (xs ys : List Nat) (f : Nat → Option (List Nat)) (cs : List Nat) : List (Nat × List Nat) := cs.filterMap fun c => (f c).map fun w => (c, w)
theorem goOn_snoc (xs ys : List Nat) (f : Nat → Option (List Nat)) (cs : List Nat) (c : Nat) : goOn xs ys f (cs ++ [c]) = goOn xs ys f cs ++ (match f c with | none => [] | some w => [(c, w)]) := by
  unfold goOn
  rw [List.filterMap_append]
  cases e : f c with
  | none =>
    have : [c].filterMap (fun c => (f c).map fun w => (c, w)) = [] := by
      rw [List.filterMap_cons_none (by rw [e]; rfl)]; rfl
    rw [this]
  | some w =>
    have : [c].filterMap (fun c => (f c).map fun w => (c, w)) = [(c, w)] := by
      rw [List.filterMap_cons_some (b := (c, w)) (by rw [e]; rfl)]; rfl
    rw [this]
theorem goOn_mem {xs ys : List Nat} {f : Nat → Option (List Nat)} {cs : List Nat} {q : Nat × List Nat} : q ∈ goOn xs ys f cs ↔ q.1 ∈ cs ∧ f q.1 = some q.2 := by
  unfold goOn
  rw [List.mem_filterMap]
  constructor
  · rintro ⟨c, hc, e⟩
    obtain ⟨w, hw, rfl⟩ := Option.map_eq_some_iff.mp e
    exact ⟨hc, hw⟩
  · rintro ⟨h1, h2⟩
    exact ⟨q.1, h1, by rw [h2]; rfl⟩
theorem goOn_pw {xs ys : List Nat} {f : Nat → Option (List Nat)} {cs : List Nat} (h : cs.Pairwise (· < ·)) : (goOn xs ys f cs).Pairwise fun a b => a.1 < b.1 := by
  unfold goOn
  rw [List.pairwise_filterMap]
  exact h.imp fun {a b} hab x hx y hy => by
    obtain ⟨_, _, rfl⟩ := Option.map_eq_some_iff.mp hx
    obtain ⟨_, _, rfl⟩ := Option.map_eq_some_iff.mp hy
    exact hab
theorem pt_step {xs ys : List Nat} (h : AB xs) (hin : ∀ c ∈ xs, c ∈ ys) {f : Nat → Option (List Nat)} (hf : ∀ c ∈ xs, IsPt (af c xs) (af c ys) (f c)) {zs : List Str} (hz : zs = (goOn xs ys f (bo xs ys)).map fun q => sg q.1 ++ toS q.2) :
    (zs = [] → IsPt xs ys none) ∧ ∀ (i : Nat) (z : Str), zs[i]? = some z → argMin zs i → ∃ w, z = toS w ∧ IsPt xs ys (some w) := by
  have hb : ∀ c, c ∈ bo xs ys ↔ c ∈ xs := fun c => by rw [mem_bo h]; exact ⟨fun a => a.1, fun a => ⟨a, hin c a⟩⟩
  constructor
  · intro e
    rw [hz] at e
    have e' := List.map_eq_nil_iff.mp e
    refine pt_none hin fun c hc => ?_
    have h1 := hf c hc
    cases e2 : f c with
    | none => rw [e2] at h1; exact h1
    | some w =>
      have : (c, w) ∈ goOn xs ys f (bo xs ys) := goOn_mem.mpr ⟨(hb c).mpr hc, e2⟩
      rw [e'] at this; cases this
  · intro i z hi hm
    have hi' := hi
    rw [hz, List.getElem?_map] at hi'
    obtain ⟨⟨c, w⟩, hq, rfl⟩ := Option.map_eq_some_iff.mp hi'
    obtain ⟨h1, h2⟩ := goOn_mem.mp (List.mem_of_getElem? hq)
    refine ⟨c :: w, cons_toS c w, pt_some hin f hf ((hb c).mp h1) h2 fun d hd v hv => ?_⟩
    have hmem : (d, v) ∈ goOn xs ys f (bo xs ys) := goOn_mem.mpr ⟨(hb d).mpr hd, hv⟩
    obtain ⟨j, hj⟩ := List.mem_iff_getElem?.mp hmem
    have hzj : zs[j]? = some (sg d ++ toS v) := by rw [hz, List.getElem?_map, hj]; rfl
    have g := hm j _ _ hi hzj
    rw [lenApp, lenApp, toS_len, toS_len, len_sg, len_sg] at g
    dsimp only at g
    rcases Nat.lt_or_ge w.length v.length with g1 | g1
    · exact .inl g1
    · refine .inr ⟨by omega, ?_⟩
      rcases Nat.lt_or_ge j i with g2 | g2
      · have := g.2 g2; omega
      · rcases Nat.lt_or_ge i j with g3 | g3
        · obtain ⟨a1, a2⟩ := List.getElem?_eq_some_iff.mp hq
          obtain ⟨b1, b2⟩ := List.getElem?_eq_some_iff.mp hj
          have := List.pairwise_iff_getElem.mp (goOn_pw (xs := xs) (ys := ys) (f := f) (bo_rise xs ys)) i j a1 b1 g3
          rw [a2, b2] at this
          have this' : c < d := this
          exact Nat.le_of_lt this'
        · obtain rfl : i = j := by omega
          rw [hq] at hj
          cases hj
          exact Nat.le_refl _
theorem pt_len {xs ys w : List Nat} (h : IsPt xs ys (some w)) : w.length ≤ xs.length := h.1.1.length_le
def spAlone : Sp := fun vs H Q _ => ∃ (a b : Addr) (xs ys : List Nat) (p s : Nat), vs = [.ref a, .ref b] ∧ H a = some (.dK (entK xs p)) ∧ H b = some (.dK (entK ys s)) ∧ xs.length ≤ 200 ∧ ∀ (o : Option Nat) (H' : Hp), Same H H' → Aln xs ys o → Q (aV o) H'
end L2
set_option Elab.async false
set_option linter.all false
set_option maxRecDepth 100000
namespace L2
open PySem PySem.Spec PyProof.Rows
/-- a list made of a dict's keys, the dict locked -/
theorem lc_keys {d : Addr} {o : Obj} {kvs : List (Key × V)} {g : TG} {tt : TT} {te : TE} {vs : List Nat} {σ : St} {H1 : Hp} {D : Addr} {Qd : Hp → Prop} (Pv : Nat → Hp → Prop) (h0 : Pv 0 (upd H1 D (.lst []))) (hl : ∀ i H, i ≤ kvs.length → Pv i H → H d = some (.frz o (.dK kvs)))
    (hs : ∀ i k v H, kvs[i]? = some (k, v) → Pv i H → g (kV k) (wipe σ vs) H fun σ2 H2 => wipe σ2 vs = wipe σ vs ∧ tt σ2 H2 fun b H3 =>
      if b = true then te σ2 H3 fun y H4 => ∃ acc, H4 D = some (.lst acc) ∧ acc.length < sizeLine ∧ Pv (i + 1) (upd H4 D (.lst (acc ++ [y]))) else Pv (i + 1) H3) (hd : ∀ H, Pv kvs.length H → Qd H) :
    ∃ W : Nat → Nat → Hp → Prop, (∃ m, W 0 m (upd H1 D (.lst []))) ∧ ∀ i m H, W i m H →
      ((Itk d o kvs).stop i H ∧ Qd H) ∨ ((Itk d o kvs).go i H ∧ ∃ Nx : Hp → Prop, (∀ H', Nx H' → ∃ m', m' < m ∧ W (i + 1) m' H') ∧ ∀ x H', (Itk d o kvs).yld i H x H' → g x (wipe σ vs) H' fun σ2 H2 => wipe σ2 vs = wipe σ vs ∧ tt σ2 H2 fun b H3 =>
        if b = true then te σ2 H3 fun y H4 => ∃ acc, H4 D = some (.lst acc) ∧ acc.length < sizeLine ∧ Nx (upd H4 D (.lst (acc ++ [y]))) else Nx H3) := by
  refine ⟨fun i m H => m = kvs.length - i ∧ i ≤ kvs.length ∧ Pv i H, ⟨kvs.length, by simp, Nat.zero_le _, h0⟩, ?_⟩
  rintro i m H ⟨rfl, hi, p⟩
  have q := hl i H hi p
  by_cases hlt : i < kvs.length
  · refine .inr ⟨⟨q, hlt⟩, Pv (i + 1), fun H' p' => ⟨kvs.length - (i + 1), by omega, rfl, hlt, p'⟩, fun x H' y => ?_⟩
    obtain ⟨rfl, k, v, e, rfl⟩ := y
    exact hs i k v _ e p
  · obtain rfl : i = kvs.length := by omega
    exact .inl ⟨⟨q, Nat.le_refl _⟩, hd H p⟩
end L2
set_option Elab.async false
set_option linter.all false
set_option maxRecDepth 100000
set_option maxHeartbeats 8000000
namespace Lv
open PySem L2
section
variable {P : Program} {w : World} {K : PySem.W.Frag} {mg : Str → Option Value} {base : Heap} {f : Addr} {fd : FuncData}
abbrev sFirstAlone : Stmt := top 7
def nFirstAlone : List Str := ["heads", "others", "letter"]
theorem scFirstAlone : FnScope nFirstAlone ["heads", "others"] (defScope sFirstAlone) := ⟨rfl, rfl, rfl, by decide +kernel, rfl, by decide +kernel, by decide +kernel⟩
theorem ok_alone (T : Glb mg)  (F : Fun K "first_alone" "first_alone" sFirstAlone f fd) : FnOk P w K mg base CX0 1 f fd ["heads", "others"] spAlone := by
  refine F.ok scFirstAlone (fun vs H Q E h => ?_) (fun cdv A outer s H vs Q E hr h => ?_)
  · obtain ⟨a, b, xs, ys, p, s0, rfl, _⟩ := h
    rfl
  obtain ⟨a, b, xs, ys, p, s0, rfl, ha, hb, lx, q⟩ := h
  have hu := hu_of hr
  refine' ⟨_, ?TT, ?RR⟩
  case TT =>
    refine' pss_one ?x1
    case x1 =>
     refine' ps_ret ?x2
     case x2 =>
      refine' pe_minSD rfl rfl T.m_min ?x3 ?x4
      case x3 =>
       refine' pa_ListComp ?x5 ?x6
       case x5 =>
        refine' pe_lock ?x7
        case x7 =>
         refine' pe_lc (own := [("letter", 2)]) (g := gName 2) (by rfl) scFirstAlone.nd ?x8 (blkOk_by (own := [("letter", 2)]) (N := nFirstAlone) (sc := defScope sFirstAlone) (by decide +kernel)) (fun _ _ _ _ _ => pg_name (i := 2) scFirstAlone.nd rfl (Or.inl rfl)) ?x9 (fun _ _ _ _ _ => (pv 2))
         case x8 =>
          exact (pi_keys (pv 0))
         case x9 =>
          intro _ _ _ _ _
          exact pts_one (pt_cmp (pc_dnotin hu (pv 2) (pv 1)))
       case x6 =>
        exact pa_nil
      case x4 =>
       exact pe_non
  case RR =>
    refine ⟨a, _, ha, trivial, fun od => ?_⟩
    generalize j1 : upd H a _ = H1
    have e1 : H1 a = some (.frz od (.dK (entK xs p))) := j1 ▸ upd_same
    have k1 : Kp a H H1 := j1 ▸ (Kp.refl _ _).set
    have hb1 : Rd H1 b (.dK (entK ys s0)) := by
      by_cases e : b = a
      · subst e
        rw [ha] at hb
        have e2 : entK xs p = entK ys s0 := by injection hb with hb; injection hb
        rw [← e2]
        exact .inr ⟨_, e1⟩
      · exact .inl (k1 _ _ hb e)
    refine ⟨_, rfl, a, od, rfl, .inl ⟨_, e1, fun D nD => ?_⟩⟩
    refine lc_keys (d := a) (o := od) (kvs := entK xs p) (fun i HA => Same H1 HA ∧ HA D = some (.lst ((((((entK xs p).take i).map fun kv => codeK kv.1).filter fun c => decide (c ∉ ys)).map sg).map V.str))) ?_ ?_ ?_ ?_
    · exact ⟨same_new nD _, upd_same⟩
    · rintro i HA _ ⟨sA, _⟩
      exact sA _ _ e1
    · rintro i k v HA hk ⟨sA, hD⟩
      obtain ⟨c, j, rfl, hj, rfl⟩ := entK_at hk
      have hcx : c ∈ (entK xs p).map fun kv => codeK kv.1 := List.mem_map.mpr ⟨_, List.mem_of_getElem? hk, rfl⟩
      refine ⟨rfl, ?_⟩
      refine ⟨_, rfl, _, rfl, b, _, rfl, (.inl ⟨_, Sum.inr (sg c), hb1.elim (fun e => .inl (sA _ _ e)) (fun ⟨o, e⟩ => .inr ⟨o, sA _ _ e⟩), rfl, rfl⟩), _, rfl, ?_⟩
      rw [List.take_add_one, hk, show (some ((Sum.inr (sg c) : Key), V.int ((p + j : Nat) : Int))).toList = [((Sum.inr (sg c) : Key), V.int ((p + j : Nat) : Int))] from rfl, List.map_append, List.filter_append, show ([((Sum.inr (sg c) : Key), V.int ((p + j : Nat) : Int))].map fun kv => codeK kv.1) = [c] from rfl, List.filter_cons, List.filter_nil, entK_val, Option.isSome_map, idx_in]
      by_cases hcy : c ∈ ys
      · rw [decide_eq_true hcy]
        refine iteF ?_
        rw [if_neg (by rw [decide_eq_false (by exact fun z => z hcy)]; decide), List.append_nil]
        exact ⟨sA, hD⟩
      · rw [decide_eq_false hcy]
        refine iteT ?_
        rw [if_pos (decide_eq_true hcy)]
        refine ⟨_, rfl, _, hD, ?_, same_over' sA nD, ?_⟩
        · rw [List.length_map, List.length_map]
          refine Nat.lt_of_le_of_lt (List.length_filter_le _ _) ?_
          rw [List.length_map, List.length_take]
          have := entK_len xs p
          exact small5 (by omega)
        · rw [upd_same, List.map_append, List.map_append]; rfl
    rintro HA ⟨sA, hD⟩
    rw [List.take_length] at hD
    refine ⟨sA _ _ e1, ?_⟩
    have naD : D ≠ a := ne_of_none e1 nD |>.symm
    have hD2 : upd HA a (.dK (entK xs p)) D = _ := (upd_ne naD).trans hD
    have s2 : Same H (upd HA a (.dK (entK xs p))) := fun b' o e => by
      by_cases eb : b' = a
      · subst eb; rw [upd_same, ← ha, e]
      · rw [upd_ne eb]; exact sA _ _ (k1 _ _ e eb)
    obtain ⟨hcn, hcm⟩ := entK_codes xs p
    generalize ((entK xs p).map fun kv => codeK kv.1) = cs at hD2 hcn hcm
    have hmem : ∀ c, c ∈ cs.filter (fun c => decide (c ∉ ys)) ↔ c ∈ xs ∧ c ∉ ys := fun c => by rw [List.mem_filter, hcm, decide_eq_true_eq]
    refine ⟨_, rfl, D, _, rfl, SqL.of hD2, fun e => ?_, fun z hz hm => ?_⟩
    · refine q none _ s2 fun c hc => Classical.byContradiction fun hn => ?_
      have := (hmem c).mpr ⟨hc, hn⟩
      rw [List.map_eq_nil_iff.mp e] at this
      cases this
    · obtain ⟨c, hc, rfl⟩ := List.mem_map.mp hz
      obtain ⟨h1, h2⟩ := (hmem c).mp hc
      refine q (some c) _ s2 ⟨h1, h2, fun d hd hdn => ?_⟩
      have := hm (sg d) (List.mem_map.mpr ⟨d, (hmem d).mpr ⟨hd, hdn⟩, rfl⟩)
      rcases Nat.lt_or_ge d c with g | g
      · exact absurd (List.Lex.rel g) this
      · exact g
abbrev sParts : Stmt := top 6
def nParts : List Str := ["one", "other", "one_table", "other_table", "shortest", "pair", "steps", "alone", "rows", "step"]
theorem scParts : FnScope nParts ["one", "other"] (defScope sParts) := ⟨rfl, rfl, rfl, by decide +kernel, rfl, by decide +kernel, by decide +kernel⟩
theorem ok_parts (T : Glb mg) (c_next_table : Callee P w K mg base 1 "next_table" ["row"] spTabX) (c_onward : Callee P w K mg base 2 "onward" ["one", "other"] spOnward) (c_first_alone : Callee P w K mg base 1 "first_alone" ["heads", "others"] spAlone) (F : Fun K "parts" "parts" sParts f fd) : FnOk P w K mg base CX0 3 f fd ["one", "other"] spParts := by
  refine F.ok scParts (fun vs H Q E h => ?_) (fun cdv A outer s H vs Q E hr h => ?_)
  · obtain ⟨z, y, rfl, _⟩ := h
    rfl
  obtain ⟨z, y, rfl, rz, ry, hz, hy, q⟩ := h
  have hu := hu_of hr
  refine' ⟨_, ?TT, ?RR⟩
  case TT =>
    refine' pss_cons ?x10 ?x11
    case x10 =>
     refine' ps_set (i := 2) scParts.nd rfl (Or.inl rfl) ?x12
     case x12 =>
      refine' pe_callC c_next_table hr rfl ?x13
      case x13 =>
       refine' pa_Name (pv 0) ?x14
       case x14 =>
        exact pa_nil
    case x11 =>
     refine' pss_cons ?x15 ?x16
     case x15 =>
      refine' ps_set (i := 3) scParts.nd rfl (Or.inl rfl) ?x17
      case x17 =>
       refine' pe_callC c_next_table hr rfl ?x18
       case x18 =>
        refine' pa_Name (pv 1) ?x19
        case x19 =>
         exact pa_nil
     case x16 =>
      refine' pss_cons ?x20 ?x21
      case x20 =>
       refine' ps_set (i := 4) scParts.nd rfl (Or.inr rfl) ?x22
       case x22 =>
        exact pe_dnewT
      case x21 =>
       refine' pss_cons ?x23 ?x24
       case x23 =>
        refine' ps_for PassesOwn.never rfl ?x25 (pg_tup rfl (pgs_cons (pg_name (i := 5) scParts.nd rfl (Or.inl rfl)) (pgs_cons (pg_name (i := 6) scParts.nd rfl (Or.inl rfl)) pgs_nil))) ?x26
        case x25 =>
         refine' pi_itemsT ?x27
         case x27 =>
          refine' pe_callC c_onward hr rfl ?x28
          case x28 =>
           refine' pa_Name (pv 0) ?x29
           case x29 =>
            refine' pa_Name (pv 1) ?x30
            case x30 =>
             exact pa_nil
        case x26 =>
         refine' pss_cons ?x31 ?x32
         case x31 =>
          refine' ps_set (i := 7) scParts.nd rfl (Or.inl rfl) ?x33
          case x33 =>
           refine' pe_callC c_first_alone hr rfl ?x34
           case x34 =>
            refine' pa_Subscript ?x35 ?x36
            case x35 =>
             refine' pe_ix ix_list (pv 2) ?x37 (fun _ _ => rfl)
             case x37 =>
              refine' pe_ix ix_tup (pv 5) ?x38 (fun _ _ => rfl)
              case x38 =>
               exact pe_int
            case x36 =>
             refine' pa_Subscript ?x39 ?x40
             case x39 =>
              refine' pe_ix ix_list (pv 3) ?x41 (fun _ _ => rfl)
              case x41 =>
               refine' pe_ix ix_tup (pv 5) ?x42 (fun _ _ => rfl)
               case x42 =>
                exact pe_int
             case x40 =>
              exact pa_nil
         case x32 =>
          refine' pss_cons ?x43 ?x44
          case x43 =>
           refine' ps_setLc (i := 8) (own := [("step", 9)]) (g := gName 9) (by rfl) scParts.nd rfl rfl (sw_true rfl rfl rfl (by decide +kernel)) ?x45 (blkOk_by (own := [("step", 9)]) (N := nParts) (sc := defScope sParts) (by decide +kernel)) (fun _ _ _ _ _ => pg_name (i := 9) scParts.nd rfl (Or.inl rfl)) ?x46 ?x47
           case x45 =>
            exact (pi_list (pv 6))
           case x46 =>
            intro _ _ _ _ _
            exact pts_one (pt_cmpR op_notN (pe_dget hu (pv 4) (pv 9) (fun _ _ => rfl)) pe_non (nomark _))
           case x47 =>
            intro _ _ _ _ _
            refine' pe_op op_add_str ?x48 ?x49
            case x48 =>
             refine' pe_ix ix_str (pv 0) ?x50 (fun _ _ => rfl)
             case x50 =>
              refine' pe_op op_sub ?x51 ?x52
              case x51 =>
               refine' pe_ix (ix_tupK (K := K) rfl) (pv 9) ?x53 (fun _ _ => rfl)
               case x53 =>
                exact pe_int
              case x52 =>
               exact pe_int
            case x49 =>
             exact (pe_dget hu (pv 4) (pv 9) (fun _ _ => rfl))
          case x44 =>
           refine' pss_one ?x54
           case x54 =>
            refine' ps_cut ?x55
            case x55 =>
             refine' ps_dput hu (pv 4) (pv 5) ?x56 rfl
             case x56 =>
              refine' pe_ifExp ?x57 (pv 7) ?x58
              case x57 =>
               refine' pt_cmpR op_notN (pv 7) ?x59 (nomark _)
               case x59 =>
                exact pe_non
              case x58 =>
               refine' pe_minLenD rfl rfl T.m_min rfl T.m_len ?x60 ?x61
               case x60 =>
                refine' pa_Name (pv 8) ?x62
                case x62 =>
                 exact pa_nil
               case x61 =>
                exact pe_non
       case x24 =>
        refine' pss_one ?x63
        case x63 =>
         refine' ps_ret ?x64
         case x64 =>
          refine' pe_dget hu (pv 4) ?x65 (fun _ _ => rfl)
          case x65 =>
           refine' pe_tup ?x66
           case x66 =>
            refine' pa_Const ?x67 ?x68
            case x67 =>
             exact pe_int
            case x68 =>
             refine' pa_Const ?x69 ?x70
             case x69 =>
              exact pe_int
             case x70 =>
              exact pa_nil
  case RR =>
    have ez := len_cps z
    have ey := len_cps y
    have hlm := mts_len (xs := z.cps.toList) (ys := y.cps.toList) (by omega) (by omega)
    refine ⟨_, rfl, z, rfl, hz, fun ta ra HT1 sT1 nta hta hTa => ?_⟩
    refine ⟨_, rfl, y, rfl, hy, fun tb rb HT2 sT2 ntb htb hTb => ?_⟩
    refine fun m nm => ?_
    generalize j1 : upd _ m _ = H1
    have s1 := upS j1 nm; have e1 := upE j1
    refine ⟨_, rfl, _, rfl, z, y, rfl, rz, ry, hz, hy, fun d lr H2 s2 nd hd hS => ?_⟩
    refine ⟨d, _, rfl, hd, fun od => ?_⟩
    generalize j2 : upd H2 d _ = H3
    have kd : Kp d H2 H3 := j2 ▸ (Kp.refl _ _).set
    have hd3 : H3 d = some (.frz od (.dT (tabP (mts z.cps.toList y.cps.toList) fun p s => .ref (lr p s)))) := j2 ▸ upd_same
    have hS3 : ∀ p s, (p, s) ∈ mts z.cps.toList y.cps.toList → Steps H3 (lr p s) z.cps.toList y.cps.toList p s := fun p s h => by
      obtain ⟨n1, ts, g1, g2, g3⟩ := hS p s h
      exact ⟨ts, kd _ _ g1 n1, g2, fun j t c q1 q2 => kd _ _ (g3 j t c q1 q2) (ne_of (g3 j t c q1 q2) hd (by intro z; cases z))⟩
    have nmd : m ≠ d := ne_of_none e1 nd
    have hm3 : H3 m = some (.dT []) := kd _ _ (s2 _ _ e1) nmd
    have up3 : ∀ (b : Addr) (o : HO), HT2 b = some o → H3 b = some o := fun b o e => kd _ _ (s2 _ _ (s1 _ _ e)) (ne_of_none (s1 _ _ e) nd)
    have nmT : ∀ (b : Addr) (o : HO), HT2 b = some o → b ≠ m := fun b o e => ne_of_none e nm
    have hta3 := up3 _ _ (sT2 _ _ hta)
    have htb3 := up3 _ _ htb
    refine for_itemsT (fun i σ H4 => ∃ (fo : Nat → Nat → Option (List Nat)) (v5 v6 v7 v8 : Option V), σ = [some (.str z), some (.str y), some (.ref ta), some (.ref tb), some (.ref m), v5, v6, v7, v8, none] ∧ Kp m H3 H4 ∧ H4 m = some (.dT (tabP ((mts z.cps.toList y.cps.toList).take i) fun p s => optS (fo p s))) ∧ ∀ p s, (p, s) ∈ (mts z.cps.toList y.cps.toList).take i → IsPt (z.cps.toList.drop p) (y.cps.toList.drop s) (fo p s)) ?_ ?_ ?_ ?_
    · exact ⟨fun _ _ => none, _, _, _, _, rfl, Kp.refl _ _, hm3, fun p s h => by rw [List.take_zero] at h; cases h⟩
    · rintro i σ H4 hi ⟨fo, v5, v6, v7, v8, rfl, k4, h4, g4⟩
      exact k4 _ _ hd3 nmd.symm
    · rintro i k v q' σ H4 T hkv hq ⟨fo, v5, v6, v7, v8, rfl, k4, h4, g4⟩ nT
      obtain ⟨p, s, hps, rfl, rfl⟩ := tabP_get hkv
      have hmem := List.mem_of_getElem? hps
      obtain ⟨ts, g1, g2, g3⟩ := hS3 p s hmem
      refine ⟨T, _, rfl, SqT.of upd_same, rfl, ?_⟩
      refine ⟨_, _, rfl, _, _, rfl, rfl, ?_⟩
      generalize j5 : upd H4 T _ = H5
      have s5 := upS j5 nT
      have hq5 := s5 _ _ hq
      have nDb : ∀ c ∈ bo (z.cps.toList.drop p) (y.cps.toList.drop s), (nx c p z.cps.toList, nx c s y.cps.toList) ∈ (mts z.cps.toList y.cps.toList).take i := fun c hc => nx_in hps hc
      have hafz : ∀ c ∈ bo (z.cps.toList.drop p) (y.cps.toList.drop s), af c (z.cps.toList.drop p) = z.cps.toList.drop (nx c p z.cps.toList) := fun c hc => (nx_of (bo_mem hc).1).2.2.2.1
      have hafy : ∀ c ∈ bo (z.cps.toList.drop p) (y.cps.toList.drop s), af c (y.cps.toList.drop s) = y.cps.toList.drop (nx c s y.cps.toList) := fun c hc => (nx_of (bo_mem hc).2).2.2.2.1
      have hbl := bo_len (z.cps.toList.drop p) (y.cps.toList.drop s)
      have hnot := nd_take (mts_nd z.cps.toList y.cps.toList) hps
      have hl4 : H4 (lr p s) = _ := k4 _ _ g1 (ne_of g1 hm3 (by intro z; cases z))
      have hmm := mem_mts.mp hmem
      have hpl : p ≤ z.cps.toList.length := by rcases hmm with ⟨h, _⟩ | ⟨_, h, _⟩ <;> omega
      have hsl : s ≤ y.cps.toList.length := by rcases hmm with ⟨_, h⟩ | ⟨_, _, _, h, _⟩ <;> omega
      obtain ⟨r1, hr1⟩ : ∃ r, ra[p]? = some r := ⟨_, List.getElem?_eq_getElem (by rw [hTa.len]; omega)⟩
      obtain ⟨r2, hr2⟩ : ∃ r, rb[s]? = some r := ⟨_, List.getElem?_eq_getElem (by rw [hTb.len]; omega)⟩
      have up5 : ∀ (b : Addr) (o : HO), HT2 b = some o → H5 b = some o := fun b o e => s5 _ _ (k4 _ _ (up3 _ _ e) (nmT b o e))
      have hd1 := up5 _ _ (sT2 _ _ (hTa.at_ p r1 hr1))
      have hd2 := up5 _ _ (hTb.at_ s r2 hr2)
      refine ⟨_, rfl, _, rfl, q', _, _, _, rfl, rfl, SqT.of hq5, atI_nat (j := 0) rfl, ta, _, _, .ref r1, rfl, rfl, SqL.of (up5 _ _ (sT2 _ _ hta)), atI_nat (by rw [List.getElem?_map, hr1]; rfl), ?_⟩
      refine ⟨_, rfl, _, rfl, q', _, _, _, rfl, rfl, SqT.of hq5, atI_nat (j := 1) rfl, tb, _, _, .ref r2, rfl, rfl, SqL.of (up5 _ _ htb), atI_nat (by rw [List.getElem?_map, hr2]; rfl), ?_⟩
      refine ⟨r1, r2, _, _, p, s, rfl, hd1, hd2, by rw [List.length_drop]; omega, fun o H6 s6 ho => ?_⟩
      refine ⟨_, rfl, lr p s, rfl, ⟨_, SqL.of (s6 _ _ (s5 _ _ hl4))⟩, fun D nD => ?_⟩
      obtain ⟨f2, hf2⟩ : ∃ f2 : Nat → Option (List Nat), f2 = fun c => fo (nx c p z.cps.toList) (nx c s y.cps.toList) := ⟨_, rfl⟩
      have hptb : ∀ c ∈ bo (z.cps.toList.drop p) (y.cps.toList.drop s), IsPt (z.cps.toList.drop (nx c p z.cps.toList)) (y.cps.toList.drop (nx c s y.cps.toList)) (f2 c) := fun c hc => by rw [hf2]; exact g4 _ _ (nDb c hc)
      refine lc_list (K := K) (a := lr p s) (xs := ts.map V.ref) (fun j HA => Same H6 HA ∧ HA D = some (.lst (((goOn (z.cps.toList.drop p) (y.cps.toList.drop s) f2 ((bo (z.cps.toList.drop p) (y.cps.toList.drop s)).take j)).map fun q => sg q.1 ++ toS q.2).map V.str))) ?_ ?_ ?_ ?_
      · exact ⟨same_new nD _, upd_same⟩
      · rintro j HA _ ⟨sA, _⟩
        exact SqL.of (sA _ _ (s6 _ _ (s5 _ _ hl4)))
      · rintro j x HA hx ⟨sA, hD⟩
        rw [List.getElem?_map] at hx
        obtain ⟨t, ht, rfl⟩ := Option.map_eq_some_iff.mp hx
        obtain ⟨c, hc⟩ : ∃ c, (bo (z.cps.toList.drop p) (y.cps.toList.drop s))[j]? = some c := ⟨_, List.getElem?_eq_getElem (by rw [← g2]; exact (List.getElem?_eq_some_iff.mp ht).1)⟩
        have hcm := List.mem_of_getElem? hc
        have htup := g3 j t c ht hc
        have htA : HA t = _ := sA _ _ (s6 _ _ (s5 _ _ (k4 _ _ htup (ne_of htup hm3 (by intro z; cases z)))))
        have hmA := sA _ _ (s6 _ _ (s5 _ _ h4))
        have hdg : DGet HA m (.ref t) (some (optS (f2 c))) := by
          rw [hf2, ← tabP_val (g := fun p s => optS (fo p s)) (nDb c hcm)]
          exact DGet.t (k := sk _ _) hmA htA
        have hpc := hptb c hcm
        have hnx := nx_of (bo_mem hcm).1
        have eix : ((nx c p z.cps.toList : Nat) : Int) - 1 = ((nx c p z.cps.toList - 1 : Nat) : Int) := by omega
        rw [take_snoc hc, goOn_snoc]
        refine ⟨rfl, ?_⟩
        refine ⟨_, rfl, _, rfl, m, _, rfl, hdg, rfl, _, rfl, ?_⟩
        cases e2 : f2 c with
        | none =>
          refine iteF ?_
          rw [List.append_nil]
          exact ⟨sA, hD⟩
        | some w =>
          rw [e2] at hdg hpc
          have lw := pt_len hpc
          rw [List.length_drop] at lw
          refine iteT ?_
          refine ⟨_, rfl, _, rfl, t, _, _, _, rfl, rfl, SqT.of htA, atI_nat (j := 0) rfl, _, _, rfl, rfl, z, _, c, rfl, rfl, small80 (by omega), (by show atI _ (((nx c p z.cps.toList : Nat) : Int) - 1) = _; rw [eix]; exact atI_nat hnx.2.2.1), ?_⟩
          refine ⟨_, rfl, _, rfl, m, _, rfl, hdg, ?_⟩
          refine ⟨_, _, rfl, rfl, by show (sg c).length + (toS w).length ≤ _; rw [len_sg, toS_len]; exact small80 (by omega), ?_⟩
          refine ⟨_, hD, ?_, same_over' sA nD, ?_⟩
          · rw [List.length_map, List.length_map]
            unfold goOn
            exact Nat.lt_of_le_of_lt (List.length_filterMap_le _ _) (by rw [List.length_take]; exact small5 (by omega))
          · rw [upd_same, List.map_append, List.map_append]
            rfl
      rintro HA ⟨sA, hD⟩
      rw [List.length_map, g2, List.take_length] at hD
      have hmA := sA _ _ (s6 _ _ (s5 _ _ h4))
      have hqA := sA _ _ (s6 _ _ hq5)
      have s4A : Same H4 HA := s5.trans (s6.trans sA)
      refine ⟨fun σ' H' => ∃ (o' : Option (List Nat)) (v5 v6 v7 v8 : Option V), IsPt (z.cps.toList.drop p) (y.cps.toList.drop s) o' ∧ σ' = [some (.str z), some (.str y), some (.ref ta), some (.ref tb), some (.ref m), v5, v6, v7, v8, none] ∧ H' = upd HA m (.dT (putK (tabP ((mts z.cps.toList y.cps.toList).take i) fun p s => optS (fo p s)) (sk p s) (optS o'))), ?_, ?_⟩
      · have hput : ∀ o', DPut HA m (.ref q') (optS o') (upd HA m (.dT (putK (tabP ((mts z.cps.toList y.cps.toList).take i) fun p s => optS (fo p s)) (sk p s) (optS o')))) := fun o' => DPut.t (k := sk p s) hmA hqA (by rw [tabP_len, List.length_take]; exact small5 (by omega))
        refine ⟨_, rfl, rfl, _, rfl, ?_⟩
        cases o with
        | some c =>
          refine iteT ?_
          exact ⟨_, rfl, _, rfl, _, rfl, m, _, rfl, hput (some [c]), some [c], _, _, _, _, aln_pt ho, rfl, rfl⟩
        | none =>
          refine iteF ?_
          have hstep := pt_step (rz.ab.drop p) ho (f := f2) (fun c hc => by
            have hcb : c ∈ bo (z.cps.toList.drop p) (y.cps.toList.drop s) := (mem_bo (rz.ab.drop p)).mpr ⟨hc, ho c hc⟩
            rw [hafz c hcb, hafy c hcb]
            exact hptb c hcb) (zs := (goOn (z.cps.toList.drop p) (y.cps.toList.drop s) f2 (bo (z.cps.toList.drop p) (y.cps.toList.drop s))).map fun q => sg q.1 ++ toS q.2) rfl
          refine ⟨_, rfl, _, rfl, D, _, rfl, SqL.of hD, fun u hu_ => ?_, fun e => ?_, fun i u hu_ hm => ?_⟩
          · obtain ⟨⟨c, w⟩, hq1, rfl⟩ := List.mem_map.mp hu_
            obtain ⟨hq2, hq3⟩ := goOn_mem.mp hq1
            have hpc := hptb c hq2
            have hq3' : f2 c = some w := hq3
            rw [hq3'] at hpc
            have lw := pt_len hpc
            rw [List.length_drop] at lw
            show (sg c ++ toS w).length ≤ _
            rw [lenApp, len_sg, toS_len]
            exact small80 (by omega)
          · exact ⟨_, rfl, _, rfl, m, _, rfl, hput none, none, _, _, _, _, hstep.1 e, rfl, rfl⟩
          · obtain ⟨w, rfl, hw⟩ := hstep.2 i u hu_ hm
            exact ⟨_, rfl, _, rfl, m, _, rfl, hput (some w), some w, _, _, _, _, hw, rfl, rfl⟩
      rintro σ' H' ⟨o', v5', v6', v7', v8', ho', rfl, rfl⟩
      obtain ⟨fo', hfo'⟩ : ∃ fo' : Nat → Nat → Option (List Nat), fo' = fun a b => if a = p ∧ b = s then o' else fo a b := ⟨_, rfl⟩
      have hnew : fo' p s = o' := by rw [hfo']; exact if_pos ⟨rfl, rfl⟩
      have hold : ∀ a b, (a, b) ∈ (mts z.cps.toList y.cps.toList).take i → fo' a b = fo a b := fun a b hab => by
        rw [hfo']
        exact if_neg (by rintro ⟨e1, e2⟩; rw [e1, e2] at hab; exact hnot hab)
      have ecg : tabP ((mts z.cps.toList y.cps.toList).take i) (fun a b => optS (fo a b)) = tabP ((mts z.cps.toList y.cps.toList).take i) (fun a b => optS (fo' a b)) := tabP_congr fun a b hab => by rw [hold a b hab]
      rw [ecg, tabP_put hnot (optS o') (by show optS (fo' p s) = _; rw [hnew]), ← take_snoc hps]
      refine ⟨fo', _, _, _, _, rfl, k4.trans ((s4A.kp m).trans (Kp.refl _ _).set), upd_same, fun a b hab => ?_⟩
      rw [take_snoc hps] at hab
      rcases List.mem_append.mp hab with hab | hab
      · rw [hold a b hab]; exact g4 a b hab
      · cases List.mem_singleton.mp hab
        rw [hnew]; exact ho'
    · rintro σ H4 ⟨fo, v5, v6, v7, v8, rfl, k4, h4, g4⟩
      rw [tabP_len, List.take_length] at h4 g4
      refine ⟨_, rfl, (by show 2 ≤ sizeLine; decide), fun t nt => ?_⟩
      generalize j5 : upd H4 t _ = H5
      have s5 := upS j5 nt; have e5 := upE j5
      have h00 : (0, 0) ∈ mts z.cps.toList y.cps.toList := mem_mts.mpr (.inl ⟨rfl, rfl⟩)
      refine ⟨m, _, rfl, (by rw [← tabP_val (g := fun p s => optS (fo p s)) h00]; exact DGet.t (k := sk 0 0) (s5 _ _ h4) e5), ?_⟩
      refine q _ H5 ?_ fun b o e => ?_
      · have := g4 0 0 h00
        rw [List.drop_zero, List.drop_zero] at this
        exact this
      · have e2 := sT2 _ _ (sT1 _ _ e)
        exact s5 _ _ (k4 _ _ (up3 _ _ e2) (nmT _ _ e2))
end
end Lv
set_option Elab.async false
set_option linter.all false
set_option maxRecDepth 100000
set_option maxHeartbeats 8000000
namespace Lv
open PySem L2
section
variable {P : Program} {w : World} {K : PySem.W.Frag} {mg : Str → Option Value} {base : Heap} {f : Addr} {fd : FuncData}
end
end Lv
set_option Elab.async false
set_option linter.all false
set_option maxRecDepth 100000
set_option maxHeartbeats 8000000
namespace Lv
open PySem L2
section
variable {P : Program} {w : World} {K : PySem.W.Frag} {mg : Str → Option Value} {base : Heap} {f : Addr} {fd : FuncData}
abbrev sLawDraws : Stmt := top 9
def nLawDraws : List Str := ["script", "draws", "k", "rest", "stir", "many"]
theorem scLawDraws : FnScope nLawDraws ["script"] (defScope sLawDraws) := ⟨rfl, rfl, rfl, by decide +kernel, rfl, by decide +kernel, by decide +kernel⟩
theorem ok_draws (T : Glb mg) (m_abs : mg "abs" = none) (F : Fun K "_law_draws" "_law_draws" sLawDraws f fd) : FnOk P w K mg base CX0 1 f fd ["script"] (spDraws K) := by
  refine F.ok scLawDraws (fun vs H Q E h => ?_) (fun cdv A outer s H vs Q E hr h => ?_)
  · obtain ⟨a, ns, rfl, _⟩ := h
    rfl
  obtain ⟨a, ns, rfl, hS, hScr, h63, q⟩ := h
  have hu := hu_of hr
  refine' ⟨_, ?TT, ?RR⟩
  case TT =>
    refine' pss_cons ?x60 ?x61
    case x60 =>
     refine' ps_set (i := 1) scLawDraws.nd rfl (Or.inl rfl) ?x62
     case x62 =>
      refine' pe_lst ?x63
      case x63 =>
       exact pa_nil
    case x61 =>
     refine' pss_cons ?x64 ?x65
     case x64 =>
      refine' ps_for PassesOwn.never rfl ?x66 (pg_name (i := 2) scLawDraws.nd rfl (Or.inl rfl)) ?x67
      case x66 =>
       refine' pi_range1 rfl T.m_range ?x68
       case x68 =>
        refine' pa_Call ?x69 ?x70
        case x69 =>
         refine' pe_callB (call_min2 rfl) rfl T.m_min (by decide +kernel) ?x71
         case x71 =>
          refine' pa_Call ?x72 ?x73
          case x72 =>
           refine' pe_callB call_len_seq rfl T.m_len PySem.boot_len ?x74
           case x74 =>
            refine' pa_Name (pv 0) ?x75
            case x75 =>
             exact pa_nil
          case x73 =>
           refine' pa_Const ?x76 ?x77
           case x76 =>
            exact pe_int
           case x77 =>
            exact pa_nil
        case x70 =>
         exact pa_nil
      case x67 =>
       refine' pss_cons ?x78 ?x79
       case x78 =>
        refine' ps_set (i := 3) scLawDraws.nd rfl (Or.inl rfl) ?x80
        case x80 =>
         refine' pe_callB call_abs rfl m_abs (by decide +kernel) ?x81
         case x81 =>
          refine' pa_Subscript ?x82 ?x83
          case x82 =>
           exact (pe_ix ix_list (pv 0) (pv 2) (fun _ _ => rfl))
          case x83 =>
           exact pa_nil
       case x79 =>
        refine' pss_one ?x84
        case x84 =>
         refine' ps_if ?x85 ?x86 ?x87
         case x85 =>
          refine' pt_cmpR op_lt (pv 3) ?x88 (nomark _)
          case x88 =>
           refine' pe_op op_pow ?x89 ?x90
           case x89 =>
            exact pe_int
           case x90 =>
            exact pe_int
         case x86 =>
          refine' pss_cons ?x91 ?x92
          case x91 =>
           refine' ps_set (i := 4) scLawDraws.nd rfl (Or.inl rfl) ?x93
           case x93 =>
            refine' pe_op op_mod ?x94 ?x95
            case x94 =>
             refine' pe_op op_mul ?x96 ?x97
             case x96 =>
              refine' pe_op op_mod ?x98 ?x99
              case x98 =>
               refine' pe_op op_add ?x100 ?x101
               case x100 =>
                refine' pe_op op_add (pv 3) ?x102
                case x102 =>
                 refine' pe_op op_mul ?x103 (pv 2)
                 case x103 =>
                  exact pe_int
               case x101 =>
                exact pe_int
              case x99 =>
               exact pe_int
             case x97 =>
              exact pe_int
            case x95 =>
             exact pe_int
          case x92 =>
           refine' pss_cons ?x104 ?x105
           case x104 =>
            refine' ps_set (i := 4) scLawDraws.nd rfl (Or.inl rfl) ?x106
            case x106 =>
             refine' pe_op op_mod ?x107 ?x108
             case x107 =>
              exact (pe_op op_mul (pv 4) (pv 4))
             case x108 =>
              exact pe_int
           case x105 =>
            refine' pss_cons ?x109 ?x110
            case x109 =>
             refine' ps_expr ?x111
             case x111 =>
              refine' pe_bm PySem.F.plainAttrs_list PySem.F.slot_list_append PySem.F.type_list_append mt_append (pv 1) ?x112
              case x112 =>
               refine' pa_BinOp ?x113 ?x114
               case x113 =>
                refine' pe_op op_mod ?x115 ?x116
                case x115 =>
                 refine' pe_op op_fdiv (pv 4) ?x117
                 case x117 =>
                  exact pe_int
                case x116 =>
                 exact pe_int
               case x114 =>
                exact pa_nil
            case x110 =>
             refine' pss_cons ?x118 ?x119
             case x118 =>
              refine' ps_expr ?x120
              case x120 =>
               refine' pe_bm PySem.F.plainAttrs_list PySem.F.slot_list_append PySem.F.type_list_append mt_append (pv 1) ?x121
               case x121 =>
                refine' pa_BinOp ?x122 ?x123
                case x122 =>
                 refine' pe_op op_mod ?x124 ?x125
                 case x124 =>
                  refine' pe_op op_fdiv (pv 4) ?x126
                  case x126 =>
                   exact pe_int
                 case x125 =>
                  exact pe_int
                case x123 =>
                 exact pa_nil
             case x119 =>
              refine' pss_cons ?x127 ?x128
              case x127 =>
               refine' ps_set (i := 4) scLawDraws.nd rfl (Or.inl rfl) ?x129
               case x129 =>
                refine' pe_op op_mod ?x130 ?x131
                case x130 =>
                 refine' pe_op op_add (pv 4) ?x132
                 case x132 =>
                  refine' pe_op op_mul ?x133 ?x134
                  case x133 =>
                   exact pe_int
                  case x134 =>
                   refine' pe_op op_add (pv 2) ?x135
                   case x135 =>
                    exact pe_int
                case x131 =>
                 exact pe_int
              case x128 =>
               refine' pss_one ?x136
               case x136 =>
                refine' ps_expr ?x137
                case x137 =>
                 refine' pe_bm PySem.F.plainAttrs_list PySem.F.slot_list_append PySem.F.type_list_append mt_append (pv 1) ?x138
                 case x138 =>
                  refine' pa_BinOp ?x139 ?x140
                  case x139 =>
                   refine' pe_op op_mod ?x141 ?x142
                   case x141 =>
                    refine' pe_op op_fdiv ?x143 ?x144
                    case x143 =>
                     refine' pe_op op_mod ?x145 ?x146
                     case x145 =>
                      exact (pe_op op_mul (pv 4) (pv 4))
                     case x146 =>
                      exact pe_int
                    case x144 =>
                     exact pe_int
                   case x142 =>
                    exact pe_int
                  case x140 =>
                   exact pa_nil
         case x87 =>
          refine' pss_cons ?x147 ?x148
          case x147 =>
           refine' ps_set (i := 5) scLawDraws.nd rfl (Or.inl rfl) ?x149
           case x149 =>
            exact pe_int
          case x148 =>
           refine' pss_one ?x150
           case x150 =>
            refine' ps_while PassesOwn.never ?x151 ?x152
            case x151 =>
             refine' PW.pt ?x153
             case x153 =>
              refine' pw_and ?x154 ?x155
              case x154 =>
               refine' pt_cmpR op_ge (pv 3) ?x156 (nomark _)
               case x156 =>
                exact pe_int
              case x155 =>
               refine' pw_and1 ?x157
               case x157 =>
                refine' pt_cmpR op_lt (pv 5) ?x158 (nomark _)
                case x158 =>
                 exact pe_int
            case x152 =>
             refine' pss_cons ?x159 ?x160
             case x159 =>
              refine' ps_expr ?x161
              case x161 =>
               refine' pe_bm PySem.F.plainAttrs_list PySem.F.slot_list_append PySem.F.type_list_append mt_append (pv 1) ?x162
               case x162 =>
                refine' pa_BinOp ?x163 ?x164
                case x163 =>
                 refine' pe_op op_mod (pv 3) ?x165
                 case x165 =>
                  exact pe_int
                case x164 =>
                 exact pa_nil
             case x160 =>
              refine' pss_cons ?x166 ?x167
              case x166 =>
               refine' ps_set (i := 3) scLawDraws.nd rfl (Or.inl rfl) ?x168
               case x168 =>
                refine' pe_op op_fdiv (pv 3) ?x169
                case x169 =>
                 exact pe_int
              case x167 =>
               refine' pss_one ?x170
               case x170 =>
                refine' ps_set (i := 5) scLawDraws.nd rfl (Or.inl rfl) ?x171
                case x171 =>
                 refine' pe_op op_add (pv 5) ?x172
                 case x172 =>
                  exact pe_int
     case x65 =>
      refine' pss_one ?x173
      case x173 =>
       refine' ps_ret ?x174
       case x174 =>
        exact (pe_slice sl_list (pv 1) po_none (po_some pe_int))
  case RR =>
    refine ⟨(by show 0 ≤ sizeLine; decide), fun p hp => ?_⟩
    have s0 := same_new hp (.lst [])
    refine ⟨_, rfl, a, _, rfl, .inl (hScr.same s0).seq, _, _, rfl, ?_⟩
    have hj : (if (80 : Int) < ((ns.map V.int).length : Nat) then (80 : Int) else ((ns.map V.int).length : Nat)) = (ns.length : Int) := by
      rw [List.length_map, if_neg (by omega)]
    refine ⟨_, rfl, by rw [hj]; omega, by rw [hj]; omega, ?_⟩
    rw [hj, Int.toNat_natCast]
    refine for_range (lo := 0) (n := ns.length) (fun t σ H1 => ∃ (v2 v3 v4 v5 : Option V) (ds : List Int), σ = [some (.ref a), some (.ref p), v2, v3, v4, v5] ∧ Kp p H H1 ∧ H1 p = some (.lst (ds.map V.int)) ∧ ds.length ≤ 60 * t ∧ ∀ n ∈ ds, 0 ≤ n ∧ n < 1000) ?_ ?_ ?_
    · exact ⟨none, none, none, none, [], rfl, s0.kp p, upd_same, Nat.le_refl _, fun n hn => nomatch hn⟩
    · rintro t σ H1 ht ⟨v2, v3, v4, v5, ds, rfl, kp, hD, hdl, hds⟩
      have hSq : SqL K H1 a (ns.map V.int) := by
        rcases hScr with ⟨o, h⟩ | h
        · exact .inl (.inr ⟨o, kp _ _ h (ne_of_none h hp)⟩)
        · exact .inr h
      obtain ⟨x, hx⟩ : ∃ x, ns[t]? = some x := ⟨_, List.getElem?_eq_getElem ht⟩
      have ei : (0 : Int) + (t : Nat) = ((t : Nat) : Int) := by omega
      rw [ei]
      refine ⟨_, rfl, _, rfl, a, _, _, .int x, rfl, rfl, hSq, atI_nat (by rw [List.getElem?_map, hx]; rfl), _, rfl, ?_⟩
      generalize hrs : (if x < 0 then -x else x) = rest
      have hr0 : 0 ≤ rest := by rw [← hrs]; split <;> omega
      have small : ∀ k, k ≤ 60 * t + 60 → k < sizeLine := fun k hk => Nat.lt_of_le_of_lt (Nat.le_trans hk (by omega : 60 * t + 60 ≤ 4000)) (by decide)
      refine ⟨_, rfl, _, _, rfl, rfl, ⟨by decide, by decide, by decide⟩, _, _, rfl, rfl, _, rfl, ?_⟩
      refine ite2 (fun _ => ?_) (fun _ => ?_)
      · have m0 : ∀ (i : Int) (j : Int), 0 < j → 0 ≤ i % j ∧ i % j < j := fun i j h => ⟨Int.emod_nonneg _ (by omega), Int.emod_lt_of_pos _ h⟩
        refine ⟨_, rfl, _, rfl, _, _, rfl, rfl, .inl ⟨by decide, by decide⟩, _, _, rfl, rfl, _, _, rfl, rfl, _, _, rfl, rfl, (by show (0 : Int) < 2147483647; decide), _, _, rfl, rfl, .inr ⟨by decide, by decide⟩, _, _, rfl, rfl, (by show (0 : Int) < 2147483647; decide), ?_⟩
        generalize hst : ((rest + 7919 * (t : Int) + 3) % 2147483647 * 48271 % 2147483647) = st
        have hs1 : 0 ≤ st ∧ st < 2147483647 := by rw [← hst]; exact m0 _ _ (by decide)
        refine ⟨_, rfl, _, rfl, _, _, rfl, rfl, .inl ⟨by omega, by omega⟩, _, _, rfl, rfl, (by show (0 : Int) < 2147483629; decide), ?_⟩
        generalize hst2 : (st * st % 2147483629) = s2
        have hs2 : 0 ≤ s2 ∧ s2 < 2147483629 := by rw [← hst2]; exact m0 _ _ (by decide)
        have hs3 := m0 (s2 / 16) 1000 (by decide)
        have hs4 := m0 (s2 / 16000) 1000 (by decide)
        refine ⟨_, rfl, .inl ⟨rfl, _, SqL.of hD⟩, _, rfl, _, _, rfl, rfl, ⟨by decide, by decide⟩, _, _, rfl, rfl, (by show (0 : Int) < 1000; decide), p, _, _, rfl, rfl, hD, by rw [List.length_map]; exact small _ (by omega), ?_⟩
        refine ⟨_, rfl, .inl ⟨rfl, _, SqL.of upd_same⟩, _, rfl, _, _, rfl, rfl, ⟨by decide, by decide⟩, _, _, rfl, rfl, (by show (0 : Int) < 1000; decide), p, _, _, rfl, rfl, upd_same, by rw [List.length_append, List.length_map]; exact small _ (by show _ + 1 ≤ _; omega), ?_⟩
        refine ⟨_, rfl, _, rfl, _, _, rfl, rfl, _, _, rfl, rfl, .inl ⟨by decide, by decide⟩, _, _, rfl, rfl, _, _, rfl, rfl, (by show (0 : Int) < 2147483587; decide), ?_⟩
        generalize hst5 : ((s2 + 40692 * ((t : Int) + 7)) % 2147483587) = s5
        have hs5 : 0 ≤ s5 ∧ s5 < 2147483587 := by rw [← hst5]; exact m0 _ _ (by decide)
        have hs6 := m0 (s5 * s5 % 2147483647 / 16) 1000 (by decide)
        refine ⟨_, rfl, .inl ⟨rfl, _, SqL.of upd_same⟩, _, rfl, _, rfl, _, _, rfl, rfl, .inl ⟨by omega, by omega⟩, _, _, rfl, rfl, (by show (0 : Int) < 2147483647; decide), _, _, rfl, rfl, ⟨by decide, by decide⟩, _, _, rfl, rfl, (by show (0 : Int) < 1000; decide), p, _, _, rfl, rfl, upd_same, by rw [List.length_append, List.length_append, List.length_map]; exact small _ (by show _ + 1 + 1 ≤ _; omega), ?_⟩
        refine ⟨_, _, _, _, ds ++ [s2 / 16 % 1000] ++ [s2 / 16000 % 1000] ++ [s5 * s5 % 2147483647 / 16 % 1000], rfl, ((kp.set).set).set, ?_, ?_, fun n hn => ?_⟩
        · rw [upd_same, List.map_append, List.map_append, List.map_append]
          subst hst5 hst2 hst
          rfl
        · rw [List.length_append, List.length_append, List.length_append]
          show _ + 1 + 1 + 1 ≤ _; omega
        · simp only [List.mem_append, List.mem_singleton] at hn
          rcases hn with ((hn | rfl) | rfl) | rfl
          · exact hds n hn
          · exact hs3
          · exact hs4
          · exact hs6
      · refine ⟨fun k σ H2 => ∃ (r : Int) (m : Nat) (v4 : Option V) (ds : List Int), k = 60 - m ∧ σ = [some (.ref a), some (.ref p), some (.int (t : Nat)), some (.int r), v4, some (.int (m : Nat))] ∧ Kp p H H2 ∧ H2 p = some (.lst (ds.map V.int)) ∧ ds.length ≤ 60 * t + m ∧ m ≤ 60 ∧ ∀ n ∈ ds, 0 ≤ n ∧ n < 1000, ?_, ?_⟩
        · exact ⟨60, rest, 0, _, ds, rfl, rfl, kp, hD, hdl, Nat.zero_le _, hds⟩
        · rintro k σ H2 ⟨r, m, v4', ds2, hk, rfl, kp2, hD2, hl2, hm, hds2⟩
          refine ⟨_, rfl, _, _, rfl, rfl, _, rfl, ?_⟩
          refine ite2 (fun c1 => ?_) (fun _ => ?_)
          · refine ⟨_, rfl, _, _, rfl, rfl, _, rfl, ?_⟩
            refine ite2 (fun c2 => ?_) (fun _ => ?_)
            · have c2' : (m : Int) < 60 := of_decide_eq_true c2
              refine ⟨_, fun σ' H' h => h, ?_⟩
              refine ⟨_, rfl, .inl ⟨rfl, _, SqL.of hD2⟩, _, rfl, _, _, rfl, rfl, (by show (0 : Int) < 1000; decide), p, _, _, rfl, rfl, hD2, by rw [List.length_map]; exact small _ (by omega), ?_⟩
              refine ⟨_, rfl, _, _, rfl, rfl, ⟨by decide, by decide⟩, _, rfl, _, _, rfl, rfl, ?_⟩
              refine ⟨k - 1, by omega, r / 1000, m + 1, v4', ds2 ++ [r % 1000], by omega, rfl, kp2.set, ?_, ?_, by omega, fun n hn => ?_⟩
              · rw [upd_same, List.map_append]; rfl
              · rw [List.length_append]; show _ + 1 ≤ _; omega
              · rcases List.mem_append.mp hn with hn | hn
                · exact hds2 n hn
                · rw [List.mem_singleton.mp hn]
                  exact ⟨Int.emod_nonneg _ (by decide), Int.emod_lt_of_pos _ (by decide)⟩
            · exact ⟨_, _, _, _, ds2, rfl, kp2, hD2, by omega, hds2⟩
          · exact ⟨_, _, _, _, ds2, rfl, kp2, hD2, by omega, hds2⟩
    · rintro σ H1 ⟨v2, v3, v4, v5, ds, rfl, kp, hD, hdl, hds⟩
      refine ⟨_, rfl, _, rfl, p, _, rfl, SqL.of hD, fun p2 hp2 => ?_⟩
      have hHp2 : H p2 = none := by
        cases e : H p2 with
        | none => rfl
        | some o => have := kp _ _ e (ne_of_none e hp); rw [hp2] at this; cases this
      refine q p2 _ hHp2 ⟨_, by rw [upd_same, map_cut], fun n hn => hds n (List.mem_of_mem_drop (List.mem_of_mem_take hn)), ?_⟩ (fun b o e => ?_)
      · rw [List.length_take]
        have := sIx_pos ds.length ds.length (v := 240) (by decide)
        rw [this]
        have : (240 : Int).toNat = 240 := rfl
        omega
      · rw [upd_ne (ne_of_none e hHp2)]
        exact kp _ _ e (ne_of_none e hp)
abbrev sLawTake : Stmt := top 10
def nLawTake : List Str := ["draws", "many"]
theorem scLawTake : FnScope nLawTake ["draws", "many"] (defScope sLawTake) := ⟨rfl, rfl, rfl, by decide +kernel, rfl, by decide +kernel, by decide +kernel⟩
theorem ok_take (T : Glb mg)  (F : Fun K "_law_take" "_law_take" sLawTake f fd) : FnOk P w K mg base CX0 1 f fd ["draws", "many"] spTake := by
  refine F.ok scLawTake (fun vs H Q E h => ?_) (fun cdv A outer s H vs Q E hr h => ?_)
  · obtain ⟨p, L, rfl, _⟩ := h
    rfl
  obtain ⟨p, L, rfl, hD, hL, q⟩ := h
  have hu := hu_of hr
  refine' ⟨_, ?TT, ?RR⟩
  case TT =>
    refine' pss_cons ?x175 ?x176
    case x175 =>
     refine' ps_if ?x177 ?x178 ?x179
     case x177 =>
      refine' pt_cmpR (op_eqD hr.units) (pv 0) ?x180 (nomark _)
      case x180 =>
       refine' pe_lst ?x181
       case x181 =>
        exact pa_nil
     case x178 =>
      refine' pss_one ?x182
      case x182 =>
       refine' ps_ret ?x183
       case x183 =>
        exact pe_int
     case x179 =>
      exact pss_nil
    case x176 =>
     refine' pss_one ?x184
     case x184 =>
      refine' ps_ret ?x185
      case x185 =>
       refine' pe_op op_mod ?x186 (pv 1)
       case x186 =>
        refine' pe_bm PySem.F.plainAttrs_list PySem.F.slot_list_pop PySem.F.type_list_pop mt_popAt (pv 0) ?x187
        case x187 =>
         refine' pa_Const ?x188 ?x189
         case x188 =>
          exact pe_int
         case x189 =>
          exact pa_nil
  case RR =>
    obtain ⟨ns, hp, hns, hle⟩ := hD.ex
    refine ⟨_, rfl, (by show 0 ≤ sizeLine; decide), fun p0 np => ?_⟩
    have s0 := same_new np (.lst [])
    refine ⟨_, _, Dp.ints (SqL.of (s0 _ _ hp)), Dp.ints (ns := []) (SqL.of upd_same), shaped_ints _, shaped_ints _, _, rfl, ?_⟩
    rw [eqv_list_ints]
    refine ite2 (fun c => ?_) (fun c => ?_)
    · exact q 0 _ (Int.le_refl 0) hL (hD.same s0) (s0.kp p)
    · cases ns with
      | nil => exact absurd (decide_eq_true rfl) c
      | cons n ns =>
        have hp1 := s0 _ _ hp
        refine ⟨_, rfl, .inl ⟨rfl, _, SqL.of hp1⟩, p, _, 0, 0, .int n, rfl, rfl, hp1, by decide, by decide, (by unfold seqIndex?; simp), rfl, ?_⟩
        refine ⟨_, rfl, _, _, rfl, rfl, hL, ?_⟩
        refine q _ _ (Int.emod_nonneg _ (by omega)) (Int.emod_lt_of_pos _ hL) ⟨ns, upd_same, fun m hm => hns m (List.mem_cons_of_mem _ hm), Nat.le_of_succ_le hle⟩ (s0.kp p).set
abbrev sLawAbc : Stmt := top 11
def nLawAbc : List Str := ["k"]
theorem scLawAbc : FnScope nLawAbc ["k"] (defScope sLawAbc) := ⟨rfl, rfl, rfl, by decide +kernel, rfl, by decide +kernel, by decide +kernel⟩
theorem ok_abc (T : Glb mg)  (F : Fun K "_law_abc" "_law_abc" sLawAbc f fd) : FnOk P w K mg base CX0 1 f fd ["k"] spAbc := by
  refine F.ok scLawAbc (fun vs H Q E h => ?_) (fun cdv A outer s H vs Q E hr h => ?_)
  · obtain ⟨k, rfl, _⟩ := h
    rfl
  obtain ⟨k, rfl, q⟩ := h
  have hu := hu_of hr
  refine' ⟨_, ?TT, ?RR⟩
  case TT =>
    refine' pss_one ?x190
    case x190 =>
     refine' ps_ret ?x191
     case x191 =>
      refine' pe_ix ix_str ?x192 ?x193 (fun _ _ => rfl)
      case x192 =>
       exact pe_str
      case x193 =>
       refine' pe_op op_mod (pv 0) ?x194
       case x194 =>
        exact pe_int
  case RR =>
    have h1 : 0 ≤ k % 26 := Int.emod_nonneg _ (by decide)
    have h2 : k % 26 < 26 := Int.emod_lt_of_pos _ (by decide)
    have e : (Str.ofString "abcdefghijklmnopqrstuvwxyz").cps.toList = (List.range 26).map (97 + ·) := by decide +kernel
    refine ⟨_, rfl, _, _, rfl, rfl, (by show (0 : Int) < 26; decide), _, _, abcC k, rfl, rfl, by decide +kernel, ?_, q⟩
    have e2 : k % 26 = ((k % 26).toNat : Int) := by omega
    rw [e, e2]
    refine atI_nat ?_
    rw [List.getElem?_map, List.getElem?_range (by omega)]; rfl
abbrev sLawSigns : Stmt := top 12
def nLawSigns : List Str := ["draws", "first", "k"]
theorem scLawSigns : FnScope nLawSigns ["draws"] (defScope sLawSigns) := ⟨rfl, rfl, rfl, by decide +kernel, rfl, by decide +kernel, by decide +kernel⟩
theorem ok_signs (T : Glb mg) (c_law_take : Callee P w K mg base 1 "_law_take" ["draws", "many"] spTake) (c_law_abc : Callee P w K mg base 1 "_law_abc" ["k"] spAbc) (F : Fun K "_law_signs" "_law_signs" sLawSigns f fd) : FnOk P w K mg base CX0 2 f fd ["draws"] spSigns := by
  refine F.ok scLawSigns (fun vs H Q E h => ?_) (fun cdv A outer s H vs Q E hr h => ?_)
  · obtain ⟨p, rfl, _⟩ := h
    rfl
  obtain ⟨p, rfl, hD, q⟩ := h
  have hu := hu_of hr
  refine' ⟨_, ?TT, ?RR⟩
  case TT =>
    refine' pss_cons ?x195 ?x196
    case x195 =>
     refine' ps_set (i := 1) scLawSigns.nd rfl (Or.inr rfl) ?x197
     case x197 =>
      refine' pe_callC c_law_take hr rfl ?x198
      case x198 =>
       refine' pa_Name (pv 0) ?x199
       case x199 =>
        refine' pa_Const ?x200 ?x201
        case x200 =>
         exact pe_int
        case x201 =>
         exact pa_nil
    case x196 =>
     refine' pss_one ?x202
     case x202 =>
      refine' ps_ret ?x203
      case x203 =>
       refine' pe_lc (own := [("k", 2)]) (g := gName 2) (by rfl) scLawSigns.nd ?x204 (blkOk_by (own := [("k", 2)]) (N := nLawSigns) (sc := defScope sLawSigns) (by decide +kernel)) (fun _ _ _ _ _ => pg_name (i := 2) scLawSigns.nd rfl (Or.inl rfl)) ?x205 ?x206
       case x204 =>
        refine' pi_range1 rfl T.m_range ?x207
        case x207 =>
         refine' pa_Subscript ?x208 ?x209
         case x208 =>
          refine' pe_ix ix_list ?x210 ?x211 (fun _ _ => rfl)
          case x210 =>
           refine' pe_lst ?x212
           case x212 =>
            refine' pa_Const ?x213 ?x214
            case x213 =>
             exact pe_int
            case x214 =>
             refine' pa_Const ?x215 ?x216
             case x215 =>
              exact pe_int
             case x216 =>
              refine' pa_Const ?x217 ?x218
              case x217 =>
               exact pe_int
              case x218 =>
               refine' pa_Const ?x219 ?x220
               case x219 =>
                exact pe_int
               case x220 =>
                refine' pa_Const ?x221 ?x222
                case x221 =>
                 exact pe_int
                case x222 =>
                 refine' pa_Const ?x223 ?x224
                 case x223 =>
                  exact pe_int
                 case x224 =>
                  exact pa_nil
          case x211 =>
           refine' pe_callC c_law_take hr rfl ?x225
           case x225 =>
            refine' pa_Name (pv 0) ?x226
            case x226 =>
             refine' pa_Const ?x227 ?x228
             case x227 =>
              exact pe_int
             case x228 =>
              exact pa_nil
         case x209 =>
          exact pa_nil
       case x205 =>
        intro _ _ _ _ _
        exact pts_nil
       case x206 =>
        intro _ _ _ _ _
        refine' pe_callC c_law_abc hr rfl ?x229
        case x229 =>
         refine' pa_BinOp ?x230 ?x231
         case x230 =>
          exact (pe_op op_add (pv 1) (pv 2))
         case x231 =>
          exact pa_nil
  case RR =>
    refine ⟨_, rfl, p, 26, rfl, hD, by decide, fun fi H1 f0 f1 hD1 k1 => ?_⟩
    refine ⟨(by show 6 ≤ sizeLine; decide), fun l nl => ?_⟩
    have s2 := same_new nl (.lst [.int 1, .int 2, .int 2, .int 3, .int 5, .int 26])
    refine ⟨_, rfl, p, 6, rfl, hD1.same s2, by decide, fun v H3 v0 v1 hD3 k3 => ?_⟩
    obtain ⟨x, hx, _, hx2⟩ := at_in (xs := [V.int 1, V.int 2, V.int 2, V.int 3, V.int 5, V.int 26]) v0 v1
    obtain ⟨many, rfl, hw0, hw1⟩ : ∃ wd : Int, x = .int wd ∧ 1 ≤ wd ∧ wd ≤ 26 := by
      simp only [List.mem_cons, List.not_mem_nil, or_false] at hx
      rcases hx with rfl | rfl | rfl | rfl | rfl | rfl <;> exact ⟨_, rfl, by decide, by decide⟩
    have nlp : l ≠ p := hD1.ne nl
    refine ⟨l, _, _, _, rfl, rfl, SqL.of (k3 _ _ upd_same nlp), hx2, ?_⟩
    have kk : Kp p H H3 := k1.trans ((s2.kp p).trans k3)
    refine ⟨many, rfl, by omega, by omega, fun D nD => ?_⟩
    have nDp : D ≠ p := hD3.ne nD
    have hHD : H D = none := kk.freeD hD3 nD
    refine lc_range (lo := 0) (n := many.toNat) (fun i H5 => Same H3 H5 ∧ ∃ cs : List Nat, cs.length = i ∧ (∀ c ∈ cs, 97 ≤ c ∧ c ≤ 122) ∧ H5 D = some (.lst ((cs.map sg).map V.str))) ?_ ?_ ?_
    · exact ⟨same_new nD _, [], rfl, (fun c hc => nomatch hc), upd_same⟩
    · rintro i H5 hi ⟨s5, cs, hl, hc, h5⟩
      refine ⟨rfl, ?_⟩
      refine ⟨_, rfl, _, rfl, _, _, rfl, rfl, _, rfl, ?_⟩
      refine ⟨_, h5, by rw [List.length_map, List.length_map]; exact small1000 (by omega), fun b o e => by rw [upd_ne (ne_of_none e nD)]; exact s5 b o e, cs ++ [abcC (fi + (0 + (i : Nat)))], by rw [List.length_append, hl]; rfl, fun c h => ?_, ?_⟩
      · rcases List.mem_append.mp h with h | h
        · exact hc c h
        · rw [List.mem_singleton.mp h]; exact abcC_ok _
      · rw [upd_same, List.map_append, List.map_append]; rfl
    · rintro H5 ⟨s5, cs, hl, hc, h5⟩
      refine q D cs H5 ⟨h5, fun z => ?_, by omega, hc⟩ nDp hHD (hD3.same s5) (kk.trans (s5.kp p))
      rw [z] at hl
      have : ([] : List Nat).length = 0 := rfl
      omega
end
end Lv
set_option Elab.async false
set_option linter.all false
set_option maxRecDepth 100000
set_option maxHeartbeats 8000000
namespace Lv
open PySem L2
section
variable {P : Program} {w : World} {K : PySem.W.Frag} {mg : Str → Option Value} {base : Heap} {f : Addr} {fd : FuncData}
abbrev sLawRow : Stmt := top 13
def nLawRow : List Str := ["draws", "signs", "most", "many", "one", "other", "third", "free", "found", "k", "turn"]
theorem scLawRow : FnScope nLawRow ["draws", "signs", "most"] (defScope sLawRow) := ⟨rfl, rfl, rfl, by decide +kernel, rfl, by decide +kernel, by decide +kernel⟩
theorem ok_rowC (T : Glb mg) (c_law_take : Callee P w K mg base 1 "_law_take" ["draws", "many"] spTake) (F : Fun K "_law_row" "_law_row" sLawRow f fd) : FnOk P w K mg base CX0 2 f fd ["draws", "signs", "most"] spRowC := by
  refine F.ok scLawRow (fun vs H Q E h => ?_) (fun cdv A outer s H vs Q E hr h => ?_)
  · obtain ⟨p, q, m, cs, rfl, _⟩ := h
    rfl
  obtain ⟨p, q0, m, cs, rfl, hD, hS, nqp, m0, m1, q⟩ := h
  have hu := hu_of hr
  refine' ⟨_, ?TT, ?RR⟩
  case TT =>
    refine' pss_cons ?x1 ?x2
    case x1 =>
     refine' ps_set (i := 3) scLawRow.nd rfl (Or.inl rfl) ?x3
     case x3 =>
      refine' pe_callB (call_min2 rfl) rfl T.m_min (by decide +kernel) ?x4
      case x4 =>
       refine' pa_Name (pv 2) ?x5
       case x5 =>
        refine' pa_Call ?x6 ?x7
        case x6 =>
         refine' pe_callC c_law_take hr rfl ?x8
         case x8 =>
          refine' pa_Name (pv 0) ?x9
          case x9 =>
           refine' pa_Const ?x10 ?x11
           case x10 =>
            exact pe_int
           case x11 =>
            exact pa_nil
        case x7 =>
         exact pa_nil
    case x2 =>
     refine' pss_cons ?x12 ?x13
     case x12 =>
      refine' ps_cut ?x14
      case x14 =>
       refine' ps_if ?x15 ?x16 ?x17
       case x15 =>
        refine' pt_cmpR op_eq ?x18 ?x19 (nomark _)
        case x18 =>
         refine' pe_callC c_law_take hr rfl ?x20
         case x20 =>
          refine' pa_Name (pv 0) ?x21
          case x21 =>
           refine' pa_Const ?x22 ?x23
           case x22 =>
            exact pe_int
           case x23 =>
            exact pa_nil
        case x19 =>
         exact pe_int
       case x16 =>
        refine' pss_one ?x24
        case x24 =>
         refine' ps_set (i := 3) scLawRow.nd rfl (Or.inl rfl) ?x25
         case x25 =>
          refine' pe_ix ix_list ?x26 ?x27 (fun _ _ => rfl)
          case x26 =>
           refine' pe_lst ?x28
           case x28 =>
            refine' pa_Name (pv 2) ?x29
            case x29 =>
             refine' pa_Call ?x30 ?x31
             case x30 =>
              refine' pe_callC c_law_take hr rfl ?x32
              case x32 =>
               refine' pa_Name (pv 0) ?x33
               case x33 =>
                refine' pa_BinOp ?x34 ?x35
                case x34 =>
                 refine' pe_op op_add (pv 2) ?x36
                 case x36 =>
                  exact pe_int
                case x35 =>
                 exact pa_nil
             case x31 =>
              exact pa_nil
          case x27 =>
           refine' pe_callC c_law_take hr rfl ?x37
           case x37 =>
            refine' pa_Name (pv 0) ?x38
            case x38 =>
             refine' pa_Const ?x39 ?x40
             case x39 =>
              exact pe_int
             case x40 =>
              exact pa_nil
       case x17 =>
        exact pss_nil
     case x13 =>
      refine' pss_cons ?x41 ?x42
      case x41 =>
       refine' ps_set (i := 4) scLawRow.nd rfl (Or.inl rfl) ?x43
       case x43 =>
        refine' pe_callC c_law_take hr rfl ?x44
        case x44 =>
         refine' pa_Name (pv 0) ?x45
         case x45 =>
          refine' pa_Const ?x46 ?x47
          case x46 =>
           exact pe_int
          case x47 =>
           exact pa_nil
      case x42 =>
       refine' pss_cons ?x48 ?x49
       case x48 =>
        refine' ps_set (i := 5) scLawRow.nd rfl (Or.inl rfl) ?x50
        case x50 =>
         refine' pe_op op_add ?x51 ?x52
         case x51 =>
          exact pe_int
         case x52 =>
          refine' pe_callC c_law_take hr rfl ?x53
          case x53 =>
           refine' pa_Name (pv 0) ?x54
           case x54 =>
            refine' pa_Const ?x55 ?x56
            case x55 =>
             exact pe_int
            case x56 =>
             exact pa_nil
       case x49 =>
        refine' pss_cons ?x57 ?x58
        case x57 =>
         refine' ps_set (i := 6) scLawRow.nd rfl (Or.inl rfl) ?x59
         case x59 =>
          refine' pe_callC c_law_take hr rfl ?x60
          case x60 =>
           refine' pa_Name (pv 0) ?x61
           case x61 =>
            refine' pa_Const ?x62 ?x63
            case x62 =>
             exact pe_int
            case x63 =>
             exact pa_nil
        case x58 =>
         refine' pss_cons ?x64 ?x65
         case x64 =>
          refine' ps_set (i := 7) scLawRow.nd rfl (Or.inl rfl) ?x66
          case x66 =>
           refine' pe_cmpR op_eq ?x67 ?x68 (nomark _)
           case x67 =>
            refine' pe_callC c_law_take hr rfl ?x69
            case x69 =>
             refine' pa_Name (pv 0) ?x70
             case x70 =>
              refine' pa_Const ?x71 ?x72
              case x71 =>
               exact pe_int
              case x72 =>
               exact pa_nil
           case x68 =>
            exact pe_int
         case x65 =>
          refine' pss_cons ?x73 ?x74
          case x73 =>
           refine' ps_set (i := 8) scLawRow.nd rfl (Or.inl rfl) ?x75
           case x75 =>
            exact pe_str
          case x74 =>
           refine' pss_cons ?x76 ?x77
           case x76 =>
            refine' ps_for PassesOwn.never rfl ?x78 (pg_name (i := 9) scLawRow.nd rfl (Or.inl rfl)) ?x79
            case x78 =>
             refine' pi_range1 rfl T.m_range ?x80
             case x80 =>
              refine' pa_Name (pv 3) ?x81
              case x81 =>
               exact pa_nil
            case x79 =>
             refine' pss_cons ?x82 ?x83
             case x82 =>
              refine' ps_set (i := 10) scLawRow.nd rfl (Or.inl rfl) ?x84
              case x84 =>
               refine' pe_op op_mod ?x85 ?x86
               case x85 =>
                refine' pe_op op_add ?x87 (pv 6)
                case x87 =>
                 refine' pe_op op_add ?x88 ?x89
                 case x88 =>
                  refine' pe_op op_add ?x90 ?x91
                  case x90 =>
                   refine' pe_op op_mul ?x92 (pv 4)
                   case x92 =>
                    exact (pe_op op_mul (pv 9) (pv 9))
                  case x91 =>
                   exact (pe_op op_mul (pv 9) (pv 5))
                 case x89 =>
                  refine' pe_op op_mul ?x93 ?x94
                  case x93 =>
                   refine' pe_op op_fdiv (pv 9) ?x95
                   case x95 =>
                    exact pe_int
                  case x94 =>
                   exact pe_int
               case x86 =>
                exact pe_int
             case x83 =>
              refine' pss_cons ?x96 ?x97
              case x96 =>
               refine' ps_cut ?x98
               case x98 =>
                refine' ps_if ?x99 ?x100 ?x101
                case x99 =>
                 refine' pt_cut ?x102
                 case x102 =>
                  refine' PW.pt ?x103
                  case x103 =>
                   refine' pw_or ?x104 ?x105
                   case x104 =>
                    refine' pt_cmpR op_lt (pv 3) ?x106 (nomark _)
                    case x106 =>
                     exact pe_int
                   case x105 =>
                    refine' pw_or1 ?x107
                    case x107 =>
                     refine' PW.pt ?x108
                     case x108 =>
                      refine' pw_and ?x109 ?x110
                      case x109 =>
                       exact (pt_val (pv 7))
                      case x110 =>
                       refine' pw_and1 ?x111
                       case x111 =>
                        refine' pt_cmpR op_gt ?x112 ?x113 (nomark _)
                        case x112 =>
                         refine' pe_callB call_len_seq rfl T.m_len PySem.boot_len ?x114
                         case x114 =>
                          refine' pa_Name (pv 0) ?x115
                          case x115 =>
                           exact pa_nil
                        case x113 =>
                         exact pe_int
                case x100 =>
                 refine' pss_one ?x116
                 case x116 =>
                  refine' ps_set (i := 10) scLawRow.nd rfl (Or.inl rfl) ?x117
                  case x117 =>
                   refine' pe_callC c_law_take hr rfl ?x118
                   case x118 =>
                    refine' pa_Name (pv 0) ?x119
                    case x119 =>
                     refine' pa_Const ?x120 ?x121
                     case x120 =>
                      exact pe_int
                     case x121 =>
                      exact pa_nil
                case x101 =>
                 exact pss_nil
              case x97 =>
               refine' pss_one ?x122
               case x122 =>
                refine' ps_set (i := 8) scLawRow.nd rfl (Or.inl rfl) ?x123
                case x123 =>
                 refine' pe_op op_add_str (pv 8) ?x124
                 case x124 =>
                  refine' pe_ix ix_list (pv 1) ?x125 (fun _ _ => rfl)
                  case x125 =>
                   refine' pe_op op_mod (pv 10) ?x126
                   case x126 =>
                    refine' pe_callB call_len_seq rfl T.m_len PySem.boot_len ?x127
                    case x127 =>
                     refine' pa_Name (pv 1) ?x128
                     case x128 =>
                      exact pa_nil
           case x77 =>
            refine' pss_one ?x129
            case x129 =>
             exact (ps_ret (pv 8))
  case RR =>
    refine ⟨_, rfl, _, rfl, p, 10, rfl, hD, by decide, fun v H1 v0 v1 hD1 k1 => ?_⟩
    refine ⟨_, _, rfl, ?_⟩
    refine ⟨fun σ' H' => ∃ n : Int, σ' = [some (.ref p), some (.ref q0), some (.int m), some (.int n), none, none, none, none, none, none, none] ∧ 0 ≤ n ∧ n ≤ m ∧ DrawsAt H' p ∧ Kp p H H', ?_, ?_⟩
    · refine ⟨_, rfl, p, 8, rfl, hD1, by decide, fun v2 H2 a2 b2 hD2 k2 => ?_⟩
      refine ⟨rfl, _, rfl, ?_⟩
      refine ite2 (fun _ => ?_) (fun _ => ?_)
      · refine ⟨_, rfl, _, rfl, _, rfl, _, _, rfl, rfl, p, _, rfl, hD2, by omega, fun v3 H3 a3 b3 hD3 k3 => ?_⟩
        refine ⟨(by show 2 ≤ sizeLine; decide), fun l nl => ?_⟩
        have s4 := same_new nl (.lst [.int m, .int v3])
        refine ⟨_, rfl, p, 2, rfl, hD3.same s4, by decide, fun v4 H4 a4 b4 hD4 k4 => ?_⟩
        obtain ⟨x, hx, _, hx2⟩ := at_in (xs := [V.int m, V.int v3]) a4 b4
        obtain ⟨n, rfl, n0, n1⟩ : ∃ n : Int, x = .int n ∧ 0 ≤ n ∧ n ≤ m := by
          simp only [List.mem_cons, List.not_mem_nil, or_false] at hx
          rcases hx with rfl | rfl
          · exact ⟨_, rfl, m0, Int.le_refl _⟩
          · exact ⟨_, rfl, a3, by omega⟩
        refine ⟨l, _, _, _, rfl, rfl, SqL.of (k4 _ _ upd_same (hD3.ne nl)), hx2, ?_⟩
        exact ⟨n, rfl, n0, n1, hD4, (k1.trans k2).trans (k3.trans ((s4.kp p).trans k4))⟩
      · refine ⟨_, rfl, ?_, ?_, hD2, k1.trans k2⟩
        · split <;> omega
        · split <;> omega
    rintro σ' H2 ⟨n, rfl, n0, n1, hD2, k2⟩
    refine ⟨_, rfl, p, 1000, rfl, hD2, by decide, fun one H3 o0 o1 hD3 k3 => ?_⟩
    refine ⟨_, rfl, p, 1000, rfl, hD3, by decide, fun oth H4 o2 o3 hD4 k4 => ?_⟩
    refine ⟨_, _, rfl, rfl, ?_⟩
    refine ⟨_, rfl, p, 1000, rfl, hD4, by decide, fun thi H5 t0 t1 hD5 k5 => ?_⟩
    refine ⟨_, rfl, p, 3, rfl, hD5, by decide, fun fr H6 f0 f1 hD6 k6 => ?_⟩
    refine ⟨rfl, ?_⟩
    generalize decide (V.int fr = V.int 1) = free
    have kk : Kp p H H6 := (k2.trans k3).trans ((k4.trans k5).trans k6)
    refine ⟨_, rfl, n, rfl, by omega, by omega, ?_⟩
    refine for_range (lo := 0) (n := n.toNat) (fun t σ' H' => ∃ (x : Str) (v9 v10 : Option V), σ' = [some (.ref p), some (.ref q0), some (.int m), some (.int n), some (.int one), some (.int (1 + oth)), some (.int thi), some (.bl free), some (.str x), v9, v10] ∧ IsRow x ∧ x.length = t ∧ DrawsAt H' p ∧ Kp p H H') ?_ ?_ ?_
    · exact ⟨_, none, none, rfl, (fun c hc => nomatch hc), rfl, hD6, kk⟩
    · rintro t σ' H7 ht ⟨x, v9, v10, rfl, hx, hl, hD7, k7⟩
      have ei : (0 : Int) + (t : Nat) = ((t : Nat) : Int) := by omega
      rw [ei]
      refine ⟨_, rfl, _, rfl, _, _, rfl, rfl, .inl ⟨by omega, by omega⟩, _, rfl, _, _, rfl, rfl, .inr ⟨by omega, by omega⟩, _, rfl, _, rfl, _, _, rfl, rfl, .inl ⟨by omega, by omega⟩, _, _, rfl, rfl, ?_⟩
      refine ⟨_, rfl, _, _, rfl, rfl, ⟨by decide, by decide⟩, _, _, rfl, rfl, .inr ⟨by decide, by decide⟩, _, _, rfl, rfl, _, rfl, _, _, rfl, rfl, _, _, rfl, rfl, (by show (0 : Int) < 9973; decide), ?_⟩
      refine ⟨fun σ' H' => ∃ tu : Int, σ' = [some (.ref p), some (.ref q0), some (.int m), some (.int n), some (.int one), some (.int (1 + oth)), some (.int thi), some (.bl free), some (.str x), some (.int (t : Nat)), some (.int tu)] ∧ DrawsAt H' p ∧ Kp p H H', ?_, ?_⟩
      · refine ⟨fun b H' => H' = H7, ?_, ?_⟩
        · refine ⟨_, rfl, _, _, rfl, rfl, _, rfl, ?_⟩
          refine ite2 (fun _ => rfl) (fun _ => ?_)
          refine ⟨_, rfl, _, rfl, ?_⟩
          refine ite2 (fun _ => ?_) (fun _ => rfl)
          obtain ⟨ds, hds, _⟩ := hD7.ex
          exact ⟨_, rfl, p, _, rfl, .inl (SqL.of hds), _, _, rfl, rfl, _, rfl, rfl⟩
        · rintro b H' rfl
          refine ite2 (fun _ => ?_) (fun _ => ?_)
          · refine ⟨_, rfl, p, 1000, rfl, hD7, by decide, fun tu H8 _ _ hD8 k8 => ?_⟩
            exact ⟨tu, rfl, hD8, k7.trans k8⟩
          · exact ⟨_, rfl, hD7, k7⟩
      · rintro σ' H8 ⟨tu, rfl, hD8, k8⟩
        have hS8 := hS.kp k8 nqp
        have hlen : (((cs.map sg).map V.str).length : Int) = (cs.length : Int) := by rw [List.length_map, List.length_map]
        have hpos := hS.pos
        have h0 : 0 ≤ tu % (((cs.map sg).map V.str).length : Int) := Int.emod_nonneg _ (by rw [hlen]; omega)
        have h1 : tu % (((cs.map sg).map V.str).length : Int) < cs.length := by
          have := Int.emod_lt_of_pos tu (b := (((cs.map sg).map V.str).length : Int)) (by rw [hlen]; omega)
          rw [hlen] at this ⊢; exact this
        obtain ⟨c, hc, hat⟩ := sgs_at' h0 h1
        refine ⟨_, rfl, _, rfl, _, rfl, _, rfl, q0, _, rfl, .inl (SqL.of hS8.at_), _, _, rfl, rfl, by rw [hlen]; omega, q0, _, _, _, rfl, rfl, SqL.of hS8.at_, hat, ?_⟩
        refine ⟨_, _, rfl, rfl, by rw [len_sg]; exact small80 (by omega), ?_⟩
        exact ⟨x ++ sg c, _, _, rfl, hx.app (row_sg (hS.ok c hc)), by rw [app_len, hl], hD8, k8⟩
    · rintro σ' H7 ⟨x, v9, v10, rfl, hx, hl, hD7, k7⟩
      exact ⟨_, rfl, q x H7 hx (by omega) (by omega) hD7 k7⟩
end
end Lv
set_option Elab.async false
set_option linter.all false
set_option maxRecDepth 100000
set_option maxHeartbeats 8000000
namespace L2
open PySem
def spOtherN : Sp := fun vs H Q _ => ∃ (p q0 : Addr) (z : Str) (cs : List Nat) (m : Int), vs = [.ref p, .str z, .ref q0, .int m] ∧ 0 ≤ m ∧ m ≤ 80 ∧ DrawsAt H p ∧ SignsAt H q0 cs ∧ q0 ≠ p ∧ IsRow z ∧ z.length ≤ 80 ∧ ∀ (x : Str) (H' : Hp), IsRow x → x.length ≤ 80 → DrawsAt H' p → Kp p H H' → Q (.str x) H'
end L2
namespace Lv
open PySem L2
section
variable {P : Program} {w : World} {K : PySem.W.Frag} {mg : Str → Option Value} {base : Heap} {f : Addr} {fd : FuncData}
abbrev sLawOther : Stmt := top 14
def nLawOther : List Str := ["draws", "one", "signs", "most", "at", "beside", "sign", "way", "k", "letter"]
theorem scLawOther : FnScope nLawOther ["draws", "one", "signs", "most"] (defScope sLawOther) := ⟨rfl, rfl, rfl, by decide +kernel, rfl, by decide +kernel, by decide +kernel⟩
theorem ok_otherN (T : Glb mg) (c_law_take : Callee P w K mg base 1 "_law_take" ["draws", "many"] spTake) (c_law_abc : Callee P w K mg base 1 "_law_abc" ["k"] spAbc) (c_law_row : Callee P w K mg base 2 "_law_row" ["draws", "signs", "most"] spRowC) (F : Fun K "_law_other" "_law_other" sLawOther f fd) : FnOk P w K mg base CX0 3 f fd ["draws", "one", "signs", "most"] spOtherN := by
  refine F.ok scLawOther (fun vs H Q E h => ?_) (fun cdv A outer s H vs Q E hr h => ?_)
  · obtain ⟨p, q0, z, cs, m, rfl, _⟩ := h
    rfl
  obtain ⟨p, q0, z, cs, m, rfl, hm0, hm, hD, hS, nqp, hz, hzl, q⟩ := h
  have hu := hu_of hr
  refine' ⟨_, ?TT, ?RR⟩
  case TT =>
    refine' pss_cons ?x1 ?x2
    case x1 =>
     refine' ps_set (i := 4) scLawOther.nd rfl (Or.inr rfl) ?x3
     case x3 =>
      refine' pe_op op_mod ?x4 ?x5
      case x4 =>
       refine' pe_callC c_law_take hr rfl ?x6
       case x6 =>
        refine' pa_Name (pv 0) ?x7
        case x7 =>
         refine' pa_Const ?x8 ?x9
         case x8 =>
          exact pe_int
         case x9 =>
          exact pa_nil
      case x5 =>
       refine' pe_op op_add ?x10 ?x11
       case x10 =>
        refine' pe_callB call_len_str rfl T.m_len PySem.boot_len ?x12
        case x12 =>
         refine' pa_Name (pv 1) ?x13
         case x13 =>
          exact pa_nil
       case x11 =>
        exact pe_int
    case x2 =>
     refine' pss_cons ?x14 ?x15
     case x14 =>
      refine' ps_set (i := 5) scLawOther.nd rfl (Or.inr rfl) ?x16
      case x16 =>
       refine' pe_op op_mod ?x17 ?x18
       case x17 =>
        refine' pe_callC c_law_take hr rfl ?x19
        case x19 =>
         refine' pa_Name (pv 0) ?x20
         case x20 =>
          refine' pa_Const ?x21 ?x22
          case x21 =>
           exact pe_int
          case x22 =>
           exact pa_nil
       case x18 =>
        refine' pe_op op_add ?x23 ?x24
        case x23 =>
         refine' pe_callB call_len_str rfl T.m_len PySem.boot_len ?x25
         case x25 =>
          refine' pa_Name (pv 1) ?x26
          case x26 =>
           exact pa_nil
        case x24 =>
         exact pe_int
     case x15 =>
      refine' pss_cons ?x27 ?x28
      case x27 =>
       refine' ps_set (i := 6) scLawOther.nd rfl (Or.inl rfl) ?x29
       case x29 =>
        refine' pe_ix ix_list ?x30 ?x31 (fun _ _ => rfl)
        case x30 =>
         refine' pe_lst ?x32
         case x32 =>
          refine' pa_Subscript ?x33 ?x34
          case x33 =>
           refine' pe_ix ix_list (pv 2) ?x35 (fun _ _ => rfl)
           case x35 =>
            refine' pe_callC c_law_take hr rfl ?x36
            case x36 =>
             refine' pa_Name (pv 0) ?x37
             case x37 =>
              refine' pa_Call ?x38 ?x39
              case x38 =>
               refine' pe_callB call_len_seq rfl T.m_len PySem.boot_len ?x40
               case x40 =>
                refine' pa_Name (pv 2) ?x41
                case x41 =>
                 exact pa_nil
              case x39 =>
               exact pa_nil
          case x34 =>
           refine' pa_Call ?x42 ?x43
           case x42 =>
            refine' pe_callC c_law_abc hr rfl ?x44
            case x44 =>
             refine' pa_Call ?x45 ?x46
             case x45 =>
              refine' pe_callC c_law_take hr rfl ?x47
              case x47 =>
               refine' pa_Name (pv 0) ?x48
               case x48 =>
                refine' pa_Const ?x49 ?x50
                case x49 =>
                 exact pe_int
                case x50 =>
                 exact pa_nil
             case x46 =>
              exact pa_nil
           case x43 =>
            exact pa_nil
        case x31 =>
         refine' pe_callC c_law_take hr rfl ?x51
         case x51 =>
          refine' pa_Name (pv 0) ?x52
          case x52 =>
           refine' pa_Const ?x53 ?x54
           case x53 =>
            exact pe_int
           case x54 =>
            exact pa_nil
      case x28 =>
       refine' pss_cons ?x55 ?x56
       case x55 =>
        refine' ps_set (i := 7) scLawOther.nd rfl (Or.inl rfl) ?x57
        case x57 =>
         refine' pe_callC c_law_take hr rfl ?x58
         case x58 =>
          refine' pa_Name (pv 0) ?x59
          case x59 =>
           refine' pa_Const ?x60 ?x61
           case x60 =>
            exact pe_int
           case x61 =>
            exact pa_nil
       case x56 =>
        refine' pss_cons ?x62 ?x63
        case x62 =>
         refine' ps_if ?x64 ?x65 ?x66
         case x64 =>
          refine' pt_cmpR op_eq (pv 7) ?x67 (nomark _)
          case x67 =>
           exact pe_int
         case x65 =>
          refine' pss_one ?x68
          case x68 =>
           exact (ps_ret (pv 1))
         case x66 =>
          exact pss_nil
        case x63 =>
         refine' pss_cons ?x69 ?x70
         case x69 =>
          refine' ps_if ?x71 ?x72 ?x73
          case x71 =>
           refine' pt_cmpR op_eq (pv 7) ?x74 (nomark _)
           case x74 =>
            exact pe_int
          case x72 =>
           refine' pss_one ?x75
           case x75 =>
            refine' ps_ret ?x76
            case x76 =>
             refine' pe_op op_add_str ?x77 ?x78
             case x77 =>
              exact (pe_slice sl_str (pv 1) po_none (po_some (pv 4)))
             case x78 =>
              exact (pe_slice sl_str (pv 1) (po_some (pe_op op_add (pv 4) pe_int)) po_none)
          case x73 =>
           exact pss_nil
         case x70 =>
          refine' pss_cons ?x79 ?x80
          case x79 =>
           refine' ps_if ?x81 ?x82 ?x83
           case x81 =>
            refine' pt_cmpR op_eq (pv 7) ?x84 (nomark _)
            case x84 =>
             exact pe_int
           case x82 =>
            refine' pss_one ?x85
            case x85 =>
             refine' ps_ret ?x86
             case x86 =>
              refine' pe_slice sl_str ?x87 po_none (po_some (pv 3))
              case x87 =>
               refine' pe_op op_add_str ?x88 ?x89
               case x88 =>
                refine' pe_op op_add_str ?x90 (pv 6)
                case x90 =>
                 exact (pe_slice sl_str (pv 1) po_none (po_some (pv 4)))
               case x89 =>
                exact (pe_slice sl_str (pv 1) (po_some (pv 4)) po_none)
           case x83 =>
            exact pss_nil
          case x80 =>
           refine' pss_cons ?x91 ?x92
           case x91 =>
            refine' ps_if ?x93 ?x94 ?x95
            case x93 =>
             refine' pt_cmpR op_eq (pv 7) ?x96 (nomark _)
             case x96 =>
              exact pe_int
            case x94 =>
             refine' pss_one ?x97
             case x97 =>
              refine' ps_ret ?x98
              case x98 =>
               refine' pe_slice sl_str ?x99 po_none (po_some (pv 3))
               case x99 =>
                refine' pe_op op_add_str ?x100 ?x101
                case x100 =>
                 refine' pe_op op_add_str ?x102 (pv 6)
                 case x102 =>
                  exact (pe_slice sl_str (pv 1) po_none (po_some (pv 4)))
                case x101 =>
                 exact (pe_slice sl_str (pv 1) (po_some (pe_op op_add (pv 4) pe_int)) po_none)
            case x95 =>
             exact pss_nil
           case x92 =>
            refine' pss_cons ?x103 ?x104
            case x103 =>
             refine' ps_if ?x105 ?x106 ?x107
             case x105 =>
              refine' pt_cmpR op_eq (pv 7) ?x108 (nomark _)
              case x108 =>
               exact pe_int
             case x106 =>
              refine' pss_one ?x109
              case x109 =>
               refine' ps_ret ?x110
               case x110 =>
                refine' pe_op op_add_str ?x111 ?x112
                case x111 =>
                 refine' pe_op op_add_str ?x113 ?x114
                 case x113 =>
                  exact (pe_slice sl_str (pv 1) po_none (po_some (pv 4)))
                 case x114 =>
                  refine' pe_revS ?x115
                  case x115 =>
                   exact (pe_slice sl_str (pv 1) (po_some (pv 4)) (po_some (pe_op op_add (pv 4) pe_int)))
                case x112 =>
                 exact (pe_slice sl_str (pv 1) (po_some (pe_op op_add (pv 4) pe_int)) po_none)
             case x107 =>
              exact pss_nil
            case x104 =>
             refine' pss_cons ?x116 ?x117
             case x116 =>
              refine' ps_if ?x118 ?x119 ?x120
              case x118 =>
               refine' pt_cmpR op_eq (pv 7) ?x121 (nomark _)
               case x121 =>
                exact pe_int
              case x119 =>
               refine' pss_one ?x122
               case x122 =>
                refine' ps_ret ?x123
                case x123 =>
                 exact (pe_revS (pv 1))
              case x120 =>
               exact pss_nil
             case x117 =>
              refine' pss_cons ?x124 ?x125
              case x124 =>
               refine' ps_if ?x126 ?x127 ?x128
               case x126 =>
                refine' pt_cmpR op_eq (pv 7) ?x129 (nomark _)
                case x129 =>
                 exact pe_int
               case x127 =>
                refine' pss_one ?x130
                case x130 =>
                 refine' ps_ret ?x131
                 case x131 =>
                  refine' pe_join ?x132 ?x133
                  case x132 =>
                   exact pe_str
                  case x133 =>
                   refine' pe_lc (own := [("k", 8), ("letter", 9)]) (g := (gTup K 2 (gCons (gName 8) (gCons (gName 9) gNil)))) (by rfl) scLawOther.nd ?x134 (blkOk_by (own := [("k", 8), ("letter", 9)]) (N := nLawOther) (sc := defScope sLawOther) (by decide +kernel)) (fun _ _ _ _ _ => (pg_tupK (K := K) rfl (pg_tup rfl (pgs_cons (pg_name (i := 8) scLawOther.nd rfl (Or.inl rfl)) (pgs_cons (pg_name (i := 9) scLawOther.nd rfl (Or.inl rfl)) pgs_nil))))) ?x135 (fun _ _ _ _ _ => (pv 9))
                   case x134 =>
                    refine' pi_enumS rfl T.m_enumerate ?x136
                    case x136 =>
                     refine' pa_Name (pv 1) ?x137
                     case x137 =>
                      exact pa_nil
                   case x135 =>
                    intro _ _ _ _ _
                    exact pts_one (PW.pt (pw_and (pt_cmpR op_ne (pe_op op_mod (pe_op op_add (pe_op op_mul (pv 8) (pv 8)) (pv 4)) pe_int) pe_int (nomark _)) (pw_and1 (pt_cmpR op_ne (pv 8) (pv 5) (nomark _)))))
               case x128 =>
                exact pss_nil
              case x125 =>
               refine' pss_cons ?x138 ?x139
               case x138 =>
                refine' ps_if ?x140 ?x141 ?x142
                case x140 =>
                 refine' pt_cmpR op_eq (pv 7) ?x143 (nomark _)
                 case x143 =>
                  exact pe_int
                case x141 =>
                 refine' pss_one ?x144
                 case x144 =>
                  refine' ps_ret ?x145
                  case x145 =>
                   refine' pe_slice sl_str ?x146 po_none (po_some (pv 3))
                   case x146 =>
                    exact (pe_op op_add_str (pv 1) (pv 1))
                case x142 =>
                 exact pss_nil
               case x139 =>
                refine' pss_cons ?x147 ?x148
                case x147 =>
                 refine' ps_if ?x149 ?x150 ?x151
                 case x149 =>
                  refine' pt_cmpR op_eq (pv 7) ?x152 (nomark _)
                  case x152 =>
                   exact pe_int
                 case x150 =>
                  refine' pss_one ?x153
                  case x153 =>
                   refine' ps_ret ?x154
                   case x154 =>
                    refine' pe_slice sl_str ?x155 po_none (po_some (pv 3))
                    case x155 =>
                     refine' pe_op op_add_str ?x156 ?x157
                     case x156 =>
                      refine' pe_op op_add_str ?x158 ?x159
                      case x158 =>
                       exact (pe_slice sl_str (pv 1) po_none (po_some (pv 4)))
                      case x159 =>
                       refine' pe_callC c_law_row hr rfl ?x160
                       case x160 =>
                        refine' pa_Name (pv 0) ?x161
                        case x161 =>
                         refine' pa_Name (pv 2) ?x162
                         case x162 =>
                          refine' pa_Name (pv 3) ?x163
                          case x163 =>
                           exact pa_nil
                     case x157 =>
                      exact (pe_slice sl_str (pv 1) (po_some (pv 4)) po_none)
                 case x151 =>
                  exact pss_nil
                case x148 =>
                 refine' pss_one ?x164
                 case x164 =>
                  refine' ps_ret ?x165
                  case x165 =>
                   refine' pe_callC c_law_row hr rfl ?x166
                   case x166 =>
                    refine' pa_Name (pv 0) ?x167
                    case x167 =>
                     refine' pa_Name (pv 2) ?x168
                     case x168 =>
                      refine' pa_Name (pv 3) ?x169
                      case x169 =>
                       exact pa_nil
  case RR =>
    have ez : z.length = z.cps.toList.length := len_cps z
    have z80 := small80 (n := z.length) (by omega)
    refine ⟨_, rfl, p, 1000, rfl, hD, by decide, fun a1 H1 a10 _ hD1 k1 => ?_⟩
    refine ⟨_, rfl, z, rfl, z80, _, _, rfl, rfl, _, _, rfl, rfl, by omega, ?_⟩
    have a0 : 0 ≤ a1 % ((z.length : Int) + 1) := Int.emod_nonneg _ (by omega)
    have a2 : a1 % ((z.length : Int) + 1) < (z.length : Int) + 1 := Int.emod_lt_of_pos _ (by omega)
    generalize hat : (a1 % ((z.length : Int) + 1)) = av at a0 a2
    refine ⟨_, rfl, p, 1000, rfl, hD1, by decide, fun b1 H2 b10 _ hD2 k2 => ?_⟩
    refine ⟨_, rfl, z, rfl, z80, _, _, rfl, rfl, _, _, rfl, rfl, by omega, ?_⟩
    generalize hbt : (b1 % ((z.length : Int) + 1)) = bv
    have kA : Kp p H H2 := k1.trans k2
    have hS2 := hS.kp kA nqp
    have hlen : (((cs.map sg).map V.str).length : Int) = (cs.length : Int) := by rw [List.length_map, List.length_map]
    refine ⟨_, rfl, _, rfl, _, rfl, q0, _, rfl, .inl (SqL.of hS2.at_), p, _, rfl, hD2, by rw [hlen]; have := hS.pos; omega, fun v2 H3 c2 d2 hD3 k3 => ?_⟩
    rw [hlen] at d2
    obtain ⟨c, hc, hatc⟩ := sgs_at' c2 d2
    have kB : Kp p H H3 := kA.trans k3
    refine ⟨q0, _, _, _, rfl, rfl, SqL.of (hS.kp kB nqp).at_, hatc, ?_⟩
    refine ⟨_, rfl, p, 26, rfl, hD3, by decide, fun v3 H4 _ _ hD4 k4 => ?_⟩
    refine ⟨_, rfl, (by show 2 ≤ sizeLine; decide), fun l nl => ?_⟩
    generalize jl : upd _ l _ = G5
    have s5 := upS jl nl; have e5 := upE jl
    refine ⟨_, rfl, p, 2, rfl, hD4.same s5, by decide, fun v4 H6 v40 v41 hD6 k6 => ?_⟩
    obtain ⟨x, hx, _, hx2⟩ := at_in (xs := [V.str (sg c), V.str (sg (abcC v3))]) v40 v41
    obtain ⟨sc_, rfl, hcr⟩ : ∃ d : Nat, x = .str (sg d) ∧ 97 ≤ d ∧ d ≤ 122 := by
      simp only [List.mem_cons, List.not_mem_nil, or_false] at hx
      rcases hx with rfl | rfl
      · exact ⟨_, rfl, hS.ok c hc⟩
      · exact ⟨_, rfl, abcC_ok _⟩
    refine ⟨l, _, _, _, rfl, rfl, SqL.of (k6 _ _ e5 (hD4.ne nl)), hx2, ?_⟩
    have kC : Kp p H H6 := kB.trans (k4.trans ((s5.kp p).trans k6))
    refine ⟨_, rfl, p, 10, rfl, hD6, by decide, fun way H9 w0 w1 hD9 k9 => ?_⟩
    have kF : Kp p H H9 := kC.trans k9
    generalize hs1 : List.set _ 6 _ = s1
    obtain rfl : s1 = [some (.ref p), some (.str z), some (.ref q0), some (.int m), some (.int av), some (.int bv), some (.str (sg sc_)), none, none, none] := by rw [← hs1, ← hat, ← hbt]; rfl
    clear hs1
    have cA := cutA z a0
    have cB := cutB z a0
    have cB1 := cutB z (a := av + 1) (by omega)
    have cB2 := cutB z (a := av + 2) (by omega)
    have cC := cutC z (a := av) (b := av + 2) a0 (by omega)
    refine ⟨_, rfl, rfl, _, rfl, ?_⟩
    refine ite2 (fun _ => ?_) (fun _ => ?_)
    · exact ⟨_, rfl, q z H9 hz hzl hD9 kF⟩
    refine ⟨_, rfl, rfl, _, rfl, ?_⟩
    refine ite2 (fun _ => ?_) (fun _ => ?_)
    · refine ⟨_, rfl, _, rfl, _, rfl, z, rfl, z80, _, rfl, _, rfl, _, _, rfl, rfl, _, rfl, z, rfl, z80, _, _, rfl, rfl, by rw [cA, cB1]; exact small80 (by omega), ?_⟩
      exact q _ H9 ((hz.cut _ _).app (hz.cut _ _)) (by rw [lenApp, cA, cB1]; omega) hD9 kF
    refine ⟨_, rfl, rfl, _, rfl, ?_⟩
    refine ite2 (fun _ => ?_) (fun _ => ?_)
    · refine ⟨_, rfl, _, rfl, _, rfl, z, rfl, z80, _, rfl, _, _, rfl, rfl, by rw [cA, len_sg]; exact small80 (by omega), _, rfl, _, rfl, _, rfl, z, rfl, z80, _, _, rfl, rfl, by rw [lenApp, cA, len_sg, cB]; exact small80 (by omega), _, rfl, _, rfl, _, rfl, by rw [lenApp, lenApp, cA, len_sg, cB]; exact small80 (by omega), ?_⟩
      exact q _ H9 ((((hz.cut _ _).app (row_sg hcr)).app (hz.cut _ _)).cut _ _) (by rw [cutA _ hm0]; exact Nat.le_trans (Nat.min_le_left _ _) (by omega)) hD9 kF
    refine ⟨_, rfl, rfl, _, rfl, ?_⟩
    refine ite2 (fun _ => ?_) (fun _ => ?_)
    · refine ⟨_, rfl, _, rfl, _, rfl, z, rfl, z80, _, rfl, _, _, rfl, rfl, by rw [cA, len_sg]; exact small80 (by omega), _, rfl, _, rfl, _, _, rfl, rfl, _, rfl, z, rfl, z80, _, _, rfl, rfl, by rw [lenApp, cA, len_sg, cB1]; exact small80 (by omega), _, rfl, _, rfl, _, rfl, by rw [lenApp, lenApp, cA, len_sg, cB1]; exact small80 (by omega), ?_⟩
      exact q _ H9 ((((hz.cut _ _).app (row_sg hcr)).app (hz.cut _ _)).cut _ _) (by rw [cutA _ hm0]; exact Nat.le_trans (Nat.min_le_left _ _) (by omega)) hD9 kF
    refine ⟨_, rfl, rfl, _, rfl, ?_⟩
    refine ite2 (fun _ => ?_) (fun _ => ?_)
    · refine ⟨_, rfl, _, rfl, _, rfl, z, rfl, z80, _, rfl, _, rfl, _, rfl, _, rfl, _, _, rfl, rfl, _, rfl, z, rfl, z80, _, rfl, by rw [cC]; exact small80 (by omega), _, _, rfl, rfl, by rw [cA, revS_length, cC]; exact small80 (by omega), _, rfl, _, rfl, _, _, rfl, rfl, _, rfl, z, rfl, z80, _, _, rfl, rfl, by rw [lenApp, cA, revS_length, cC, cB2]; exact small80 (by omega), ?_⟩
      exact q _ H9 (((hz.cut _ _).app (hz.cut _ _).rev).app (hz.cut _ _)) (by rw [lenApp, lenApp, cA, revS_length, cC, cB2]; omega) hD9 kF
    refine ⟨_, rfl, rfl, _, rfl, ?_⟩
    refine ite2 (fun _ => ?_) (fun _ => ?_)
    · refine ⟨_, rfl, z, rfl, z80, ?_⟩
      exact q _ H9 hz.rev (by rw [revS_length]; exact hzl) hD9 kF
    refine ⟨_, rfl, rfl, _, rfl, ?_⟩
    refine ite2 (fun _ => ?_) (fun _ => ?_)
    · refine ⟨⟨_, rfl⟩, _, rfl, z, rfl, fun D nD => ?_⟩
      refine lc_enumS (z := z) (fun i H5 => Same H9 H5 ∧ ∃ ds : List Nat, ds.length ≤ i ∧ (∀ d ∈ ds, 97 ≤ d ∧ d ≤ 122) ∧ H5 D = some (.lst ((ds.map sg).map V.str))) ?_ ?_ ?_
      · exact ⟨same_new nD _, [], Nat.le_refl _, (fun d hd => nomatch hd), upd_same⟩
      · rintro i c2 T H5 hc2 ⟨s5, ds, hl, hds, h5⟩ hT
        have hi : i < z.cps.toList.length := (List.getElem?_eq_some_iff.mp hc2).1
        have sT := same_new hT (.tup [.int (i : Nat), .str (sg c2)])
        refine ⟨T, _, rfl, SqT.of upd_same, rfl, _, _, rfl, _, _, rfl, rfl, rfl, ?_⟩
        have kept : ∃ acc, (upd H5 T (.tup [.int (i : Nat), .str (sg c2)])) D = some (.lst acc) ∧ acc.length < sizeLine ∧ (Same H9 (upd (upd H5 T (.tup [.int (i : Nat), .str (sg c2)])) D (.lst (acc ++ [.str (sg c2)]))) ∧ ∃ ds : List Nat, ds.length ≤ i + 1 ∧ (∀ d ∈ ds, 97 ≤ d ∧ d ≤ 122) ∧ (upd (upd H5 T (.tup [.int (i : Nat), .str (sg c2)])) D (.lst (acc ++ [.str (sg c2)]))) D = some (.lst ((ds.map sg).map V.str))) := by
          refine ⟨_, sT _ _ h5, by rw [List.length_map, List.length_map]; exact small1000 (by omega), fun b o e => by rw [upd_ne (ne_of_none e nD)]; exact sT _ _ (s5 b o e), ds ++ [c2], by rw [List.length_append]; exact Nat.succ_le_succ hl, fun d hd => ?_, ?_⟩
          · rcases List.mem_append.mp hd with hd | hd
            · exact hds d hd
            · rw [List.mem_singleton.mp hd]; exact hz _ (List.mem_of_getElem? hc2)
          · rw [upd_same, List.map_append, List.map_append]; rfl
        refine ⟨_, rfl, _, rfl, _, _, rfl, rfl, .inl ⟨by omega, by omega⟩, _, rfl, _, _, rfl, rfl, _, _, rfl, rfl, (by show (0 : Int) < 7; decide), rfl, _, rfl, ?_⟩
        refine ite2 (fun _ => ?_) (fun _ => ?_)
        · refine ⟨_, rfl, _, rfl, rfl, _, rfl, ?_⟩
          refine ite2 (fun _ => ?_) (fun _ => ?_)
          · exact ⟨_, rfl, kept⟩
          · exact ⟨s5.trans sT, ds, Nat.le_succ_of_le hl, hds, sT _ _ h5⟩
        · exact ⟨s5.trans sT, ds, Nat.le_succ_of_le hl, hds, sT _ _ h5⟩
      rintro H5 ⟨s5, ds, hl, hds, h5⟩
      refine ⟨_, D, ds.map sg, rfl, rfl, .inl (SqL.of h5), ?_, ?_⟩
      · rw [sum_sg]
        show ds.length + (ds.map sg).length * 0 ≤ 16777216
        omega
      have ej : (Txt.join (Str.ofString "") (ds.map sg)).cps.toList = ds := join_sg _
      exact q _ H5 (fun d hd => hds d (by rw [ej] at hd; exact hd)) (by rw [len_cps, ej]; omega) (hD9.same s5) (kF.trans (s5.kp p))
    refine ⟨_, rfl, rfl, _, rfl, ?_⟩
    refine ite2 (fun _ => ?_) (fun _ => ?_)
    · refine ⟨_, rfl, _, rfl, _, _, rfl, rfl, small80 (by omega), _, rfl, _, rfl, _, rfl, by rw [lenApp]; exact small80 (by omega), ?_⟩
      exact q _ H9 ((hz.app hz).cut _ _) (by rw [cutA _ hm0]; exact Nat.le_trans (Nat.min_le_left _ _) (by omega)) hD9 kF
    refine ⟨_, rfl, rfl, _, rfl, ?_⟩
    refine ite2 (fun _ => ?_) (fun _ => ?_)
    · refine ⟨_, rfl, _, rfl, _, rfl, z, rfl, z80, ?_⟩
      refine ⟨_, rfl, _, rfl, _, rfl, p, q0, m, cs, rfl, hD9, hS.kp kF nqp, nqp, hm0, hm, fun x H10 hx lx _ hD10 k10 => ?_⟩
      refine ⟨_, _, rfl, rfl, by rw [cA]; exact small80 (by omega), _, rfl, _, rfl, _, rfl, z, rfl, z80, _, _, rfl, rfl, by rw [lenApp, cA, cB]; exact small80 (by omega), _, rfl, _, rfl, _, rfl, by rw [lenApp, lenApp, cA, cB]; exact small80 (by omega), ?_⟩
      exact q _ H10 ((((hz.cut _ _).app hx).app (hz.cut _ _)).cut _ _) (by rw [cutA _ hm0]; exact Nat.le_trans (Nat.min_le_left _ _) (by omega)) hD10 (kF.trans k10)
    refine ⟨_, rfl, _, rfl, _, rfl, p, q0, m, cs, rfl, hD9, hS.kp kF nqp, nqp, hm0, hm, fun x H10 hx lx _ hD10 k10 => ?_⟩
    exact q x H10 hx lx hD10 (kF.trans k10)
end
end Lv
set_option Elab.async false
set_option linter.all false
set_option maxRecDepth 100000
set_option maxHeartbeats 1600000
namespace L2
open PySem
def PtSize (xs ys : List Nat) (n : Int) : Prop := (xs.Sublist ys ∧ n = 1000) ∨ ∃ w : List Nat, IsPt xs ys (some w) ∧ n = (w.length : Int)
theorem PtSize.le {xs ys us vs : List Nat} {n m : Int} (h : PtSize xs ys n) (h' : PtSize us vs m) (hl : us.length ≤ 999)
    (g : ∀ v : List Nat, v.Sublist xs → ¬ v.Sublist ys → ∃ u : List Nat, u.Sublist us ∧ ¬ u.Sublist vs ∧ u.length ≤ v.length) : m ≤ n := by
  rcases h with ⟨_, rfl⟩ | ⟨w, hw, rfl⟩
  · rcases h' with ⟨_, rfl⟩ | ⟨u, hu, rfl⟩
    · exact Int.le_refl _
    · have := pt_len hu
      omega
  · obtain ⟨u, h1, h2, h3⟩ := g w hw.1.1 hw.1.2
    rcases h' with ⟨h4, _⟩ | ⟨x, hx, rfl⟩
    · exact absurd (h1.trans h4) h2
    · rcases hx.2 u h1 h2 with h5 | ⟨h5, _⟩ <;> omega
theorem PtSize.left {xs ys : List Nat} {n : Int} (h : PtSize xs ys n) (hl : xs.length ≤ 999) : xs.Sublist ys ↔ n = 1000 := by
  rcases h with ⟨h1, rfl⟩ | ⟨w, hw, rfl⟩
  · exact ⟨fun _ => rfl, fun _ => h1⟩
  · have := pt_len hw
    exact ⟨fun h => absurd (hw.1.1.trans h) hw.1.2, fun h => by omega⟩
theorem sub_of_rev {v ys : List Nat} (h : v.reverse.Sublist ys.reverse) : v.Sublist ys := by
  have := h.reverse
  rwa [List.reverse_reverse, List.reverse_reverse] at this
theorem ptz_rev {xs ys : List Nat} {n m : Int} (h : PtSize xs ys n) (h' : PtSize xs.reverse ys.reverse m) (hl : xs.length ≤ 999) : m = n := by
  have h1 := h.le h' (by rw [List.length_reverse]; exact hl) fun v a b => ⟨v.reverse, a.reverse, fun z => b (sub_of_rev z), by rw [List.length_reverse]; exact Nat.le_refl _⟩
  have h2 := h'.le h hl fun v a b => ⟨v.reverse, by have := a.reverse; rwa [List.reverse_reverse] at this, fun z => b (by have := z.reverse; rwa [List.reverse_reverse] at this), by rw [List.length_reverse]; exact Nat.le_refl _⟩
  omega
theorem ptz_more {xs us ys : List Nat} {n m : Int} (h : PtSize xs ys n) (h' : PtSize us ys m) (hl : us.length ≤ 999) (g : xs.Sublist us) : m ≤ n := h.le h' hl fun v a b => ⟨v, a.trans g, b, Nat.le_refl _⟩
theorem ptz_other {xs ys vs : List Nat} {n m : Int} (h : PtSize xs ys n) (h' : PtSize xs vs m) (hl : xs.length ≤ 999) (g : ys.Sublist vs) : n ≤ m := h'.le h hl fun v a b => ⟨v, a, fun z => b (z.trans g), Nat.le_refl _⟩
theorem ptz_behind {xs ys : List Nat} {c : Nat} {n m : Int} (h : PtSize xs ys n) (h' : PtSize (xs ++ [c]) (ys ++ [c]) m) (hl : xs.length ≤ 999) : n ≤ m := h'.le h hl fun v a b => by
  obtain ⟨u, t, rfl, hu, ht⟩ := List.sublist_append_iff.mp a
  refine ⟨u, hu, fun z => b (z.append ht), by rw [List.length_append]; omega⟩
theorem ptz_ahead {xs ys : List Nat} {c : Nat} {n m : Int} (h : PtSize xs ys n) (h' : PtSize (c :: xs) (c :: ys) m) (hl : xs.length ≤ 999) : n ≤ m := h'.le h hl fun v a b => by
  rcases List.sublist_cons_iff.mp a with a | ⟨u, rfl, hu⟩
  · exact ⟨v, a, fun z => b (z.trans (List.sublist_cons_self _ _)), Nat.le_refl _⟩
  · exact ⟨u, hu, fun z => b (z.cons_cons c), by rw [List.length_cons]; omega⟩
theorem sub_both {xs ys : List Nat} {c : Nat} : (c :: xs).Sublist (c :: ys) ↔ xs.Sublist ys := List.cons_sublist_cons
theorem ptz_nil {xs : List Nat} {n : Int} (h : PtSize xs [] n) (hl : xs.length ≤ 999) : n = if xs = [] then 1000 else 1 := by
  by_cases e : xs = []
  · subst e
    rw [if_pos rfl]
    exact (h.left hl).mp (List.Sublist.refl _)
  · rw [if_neg e]
    rcases h with ⟨h1, _⟩ | ⟨w, hw, rfl⟩
    · exact absurd (List.sublist_nil.mp h1) e
    · obtain ⟨c, hc⟩ := List.exists_mem_of_ne_nil _ e
      have h1 := hw.2 [c] (List.singleton_sublist.mpr hc) fun z => by have := List.sublist_nil.mp z; cases this
      have h2 : w ≠ [] := fun z => hw.1.2 (by rw [z]; exact List.Sublist.refl _)
      have h3 := List.length_pos_iff.mpr h2
      have lc : [c].length = 1 := rfl
      rcases h1 with h1 | ⟨h1, _⟩ <;> rw [lc] at h1 <;> omega
theorem pt_sub {xs ys : List Nat} {o : Option (List Nat)} (h : IsPt xs ys o) (g : xs.Sublist ys) : o = none := by
  cases o with
  | none => rfl
  | some w => exact absurd (h.1.1.trans g) h.1.2
theorem pt_none_iff {xs ys : List Nat} {o : Option (List Nat)} (h : IsPt xs ys o) : o = none ↔ xs.Sublist ys := ⟨fun e => by subst e; exact h, pt_sub h⟩
theorem optS_non {o : Option (List Nat)} : optS o = V.non ↔ o = none := by
  cases o with
  | none => exact ⟨fun _ => rfl, fun _ => rfl⟩
  | some w => exact ⟨fun h => (nomatch h), fun h => (nomatch h)⟩
def spSizePt : Sp := fun vs H Q _ => ∃ z y : Str, vs = [.str z, .str y] ∧ IsRow z ∧ IsRow y ∧ z.length ≤ 200 ∧ y.length ≤ 200 ∧ ∀ (n : Int) (H' : Hp), PtSize z.cps.toList y.cps.toList n → Same H H' → Q (.int n) H'
def spRightPt : Sp := fun vs H Q _ => ∃ (p : Addr) (z y : Str), vs = [.ref p, .str z, .str y] ∧ DrawsAt H p ∧ IsRow z ∧ IsRow y ∧ z.length ≤ 80 ∧ y.length ≤ 80 ∧ ∀ H', DrawsAt H' p → Kp p H H' → Q (.bl true) H'
end L2
set_option Elab.async false
set_option linter.all false
set_option maxRecDepth 100000
set_option maxHeartbeats 8000000
namespace L2
open PySem
theorem row_putL {z u : Str} {d : Nat} {a : Int} (h : IsRow z) (g : 97 ≤ d ∧ d ≤ 122) (e : u = cutS z none (some a) ++ sg d ++ cutS z (some a) none) : IsRow u := by
  subst e
  exact ((h.cut _ _).app (row_sg g)).app (h.cut _ _)
theorem put_cps {z : Str} {d : Nat} {a : Nat} : (cutS z none (some (a : Int)) ++ sg d ++ cutS z (some (a : Int)) none).cps.toList = z.cps.toList.take a ++ [d] ++ z.cps.toList.drop a := by
  rw [app_cps, app_cps, cut_to _ (by omega), cut_from _ (by omega)]
  rfl
theorem put_sub (z : List Nat) (d a : Nat) : z.Sublist (z.take a ++ [d] ++ z.drop a) := by
  have h : (z.take a ++ z.drop a).Sublist (z.take a ++ [d] ++ z.drop a) := List.Sublist.append (List.sublist_append_left _ _) (List.Sublist.refl _)
  rwa [List.take_append_drop] at h
end L2
namespace Lv
open PySem L2
section
variable {P : Program} {w : World} {K : PySem.W.Frag} {mg : Str → Option Value} {base : Heap} {f : Addr} {fd : FuncData}
abbrev sLawSize : Stmt := top 15
def nLawSize : List Str := ["one", "other", "found"]
theorem scLawSize : FnScope nLawSize ["one", "other"] (defScope sLawSize) := ⟨rfl, rfl, rfl, by decide +kernel, rfl, by decide +kernel, by decide +kernel⟩
theorem ok_sizePt (T : Glb mg) (c_parts : Callee P w K mg base 3 "parts" ["one", "other"] spParts) (F : Fun K "_law_size" "_law_size" sLawSize f fd) : FnOk P w K mg base CX0 4 f fd ["one", "other"] spSizePt := by
  refine F.ok scLawSize (fun vs H Q E h => ?_) (fun cdv A outer s H vs Q E hr h => ?_)
  · obtain ⟨z, y, rfl, _⟩ := h
    rfl
  obtain ⟨z, y, rfl, rz, ry, hz, hy, q⟩ := h
  have hu := hu_of hr
  refine' ⟨_, ?TT, ?RR⟩
  case TT =>
    refine' pss_cons ?x1 ?x2
    case x1 =>
     refine' ps_set (i := 2) scLawSize.nd rfl (Or.inl rfl) ?x3
     case x3 =>
      refine' pe_callC c_parts hr rfl ?x4
      case x4 =>
       refine' pa_Name (pv 0) ?x5
       case x5 =>
        refine' pa_Name (pv 1) ?x6
        case x6 =>
         exact pa_nil
    case x2 =>
     refine' pss_one ?x7
     case x7 =>
      refine' ps_ret ?x8
      case x8 =>
       refine' pe_ifExp ?x9 ?x10 ?x11
       case x9 =>
        refine' pt_cmpR op_isN (pv 2) ?x12 (nomark _)
        case x12 =>
         exact pe_non
       case x10 =>
        exact pe_int
       case x11 =>
        refine' pe_callB call_len_str rfl T.m_len PySem.boot_len ?x13
        case x13 =>
         refine' pa_Name (pv 2) ?x14
         case x14 =>
          exact pa_nil
  case RR =>
    have ez := len_cps z
    refine ⟨_, rfl, _, rfl, z, y, rfl, rz, ry, hz, hy, fun o H1 ho s1 => ?_⟩
    cases o with
    | none =>
      refine ⟨_, rfl, rfl, _, rfl, iteT ?_⟩
      exact q 1000 H1 (.inl ⟨ho, rfl⟩) s1
    | some w =>
      refine ⟨_, rfl, rfl, _, rfl, iteF ?_⟩
      have lw := pt_len ho
      refine ⟨_, rfl, toS w, rfl, by rw [toS_len]; exact small80 (by omega), ?_⟩
      rw [toS_len]
      exact q _ H1 (.inr ⟨w, ho, rfl⟩) s1
abbrev sLawRight : Stmt := top 16
def nLawRight : List Str := ["draws", "one", "other", "size", "sign", "at", "beside"]
theorem scLawRight : FnScope nLawRight ["draws", "one", "other"] (defScope sLawRight) := ⟨rfl, rfl, rfl, by decide +kernel, rfl, by decide +kernel, by decide +kernel⟩
theorem ok_rightPt (T : Glb mg) (c_law_take : Callee P w K mg base 1 "_law_take" ["draws", "many"] spTake) (c_law_abc : Callee P w K mg base 1 "_law_abc" ["k"] spAbc) (c_parts : Callee P w K mg base 3 "parts" ["one", "other"] spParts) (c_law_size : Callee P w K mg base 4 "_law_size" ["one", "other"] spSizePt) (F : Fun K "_law_right" "_law_right" sLawRight f fd) : FnOk P w K mg base CX0 5 f fd ["draws", "one", "other"] spRightPt := by
  refine F.ok scLawRight (fun vs H Q E h => ?_) (fun cdv A outer s H vs Q E hr h => ?_)
  · obtain ⟨p, z, y, rfl, _⟩ := h
    rfl
  obtain ⟨p, z, y, rfl, hD, rz, ry, lz, ly, q⟩ := h
  have hu := hu_of hr
  refine' ⟨_, ?TT, ?RR⟩
  case TT =>
    refine' pss_cons ?x15 ?x16
    case x15 =>
     refine' ps_set (i := 3) scLawRight.nd rfl (Or.inl rfl) ?x17
     case x17 =>
      refine' pe_callC c_law_size hr rfl ?x18
      case x18 =>
       refine' pa_Name (pv 1) ?x19
       case x19 =>
        refine' pa_Name (pv 2) ?x20
        case x20 =>
         exact pa_nil
    case x16 =>
     refine' pss_cons ?x21 ?x22
     case x21 =>
      refine' ps_set (i := 4) scLawRight.nd rfl (Or.inl rfl) ?x23
      case x23 =>
       refine' pe_callC c_law_abc hr rfl ?x24
       case x24 =>
        refine' pa_Call ?x25 ?x26
        case x25 =>
         refine' pe_callC c_law_take hr rfl ?x27
         case x27 =>
          refine' pa_Name (pv 0) ?x28
          case x28 =>
           refine' pa_Const ?x29 ?x30
           case x29 =>
            exact pe_int
           case x30 =>
            exact pa_nil
        case x26 =>
         exact pa_nil
     case x22 =>
      refine' pss_cons ?x31 ?x32
      case x31 =>
       refine' ps_set (i := 5) scLawRight.nd rfl (Or.inl rfl) ?x33
       case x33 =>
        refine' pe_op op_mod ?x34 ?x35
        case x34 =>
         refine' pe_callC c_law_take hr rfl ?x36
         case x36 =>
          refine' pa_Name (pv 0) ?x37
          case x37 =>
           refine' pa_Const ?x38 ?x39
           case x38 =>
            exact pe_int
           case x39 =>
            exact pa_nil
        case x35 =>
         refine' pe_op op_add ?x40 ?x41
         case x40 =>
          refine' pe_callB call_len_str rfl T.m_len PySem.boot_len ?x42
          case x42 =>
           refine' pa_Name (pv 1) ?x43
           case x43 =>
            exact pa_nil
         case x41 =>
          exact pe_int
      case x32 =>
       refine' pss_cons ?x44 ?x45
       case x44 =>
        refine' ps_set (i := 6) scLawRight.nd rfl (Or.inl rfl) ?x46
        case x46 =>
         refine' pe_op op_mod ?x47 ?x48
         case x47 =>
          refine' pe_callC c_law_take hr rfl ?x49
          case x49 =>
           refine' pa_Name (pv 0) ?x50
           case x50 =>
            refine' pa_Const ?x51 ?x52
            case x51 =>
             exact pe_int
            case x52 =>
             exact pa_nil
         case x48 =>
          refine' pe_op op_add ?x53 ?x54
          case x53 =>
           refine' pe_callB call_len_str rfl T.m_len PySem.boot_len ?x55
           case x55 =>
            refine' pa_Name (pv 2) ?x56
            case x56 =>
             exact pa_nil
          case x54 =>
           exact pe_int
       case x45 =>
        refine' pss_cons ?x57 ?x58
        case x57 =>
         refine' ps_if ?x59 ?x60 ?x61
         case x59 =>
          refine' pt_cmpR op_ne ?x62 (pv 3) (nomark _)
          case x62 =>
           refine' pe_callC c_law_size hr rfl ?x63
           case x63 =>
            refine' pa_Subscript ?x64 ?x65
            case x64 =>
             exact (pe_revS (pv 1))
            case x65 =>
             refine' pa_Subscript ?x66 ?x67
             case x66 =>
              exact (pe_revS (pv 2))
             case x67 =>
              exact pa_nil
         case x60 =>
          refine' pss_one ?x68
          case x68 =>
           refine' ps_ret ?x69
           case x69 =>
            exact pe_bl
         case x61 =>
          exact pss_nil
        case x58 =>
         refine' pss_cons ?x70 ?x71
         case x70 =>
          refine' ps_if ?x72 ?x73 ?x74
          case x72 =>
           refine' pt_cmpR op_gt ?x75 (pv 3) (nomark _)
           case x75 =>
            refine' pe_callC c_law_size hr rfl ?x76
            case x76 =>
             refine' pa_BinOp ?x77 ?x78
             case x77 =>
              refine' pe_op op_add_str ?x79 ?x80
              case x79 =>
               refine' pe_op op_add_str ?x81 (pv 4)
               case x81 =>
                exact (pe_slice sl_str (pv 1) po_none (po_some (pv 5)))
              case x80 =>
               exact (pe_slice sl_str (pv 1) (po_some (pv 5)) po_none)
             case x78 =>
              refine' pa_Name (pv 2) ?x82
              case x82 =>
               exact pa_nil
          case x73 =>
           refine' pss_one ?x83
           case x83 =>
            refine' ps_ret ?x84
            case x84 =>
             exact pe_bl
          case x74 =>
           exact pss_nil
         case x71 =>
          refine' pss_cons ?x85 ?x86
          case x85 =>
           refine' ps_if ?x87 ?x88 ?x89
           case x87 =>
            refine' pt_cmpR op_lt ?x90 (pv 3) (nomark _)
            case x90 =>
             refine' pe_callC c_law_size hr rfl ?x91
             case x91 =>
              refine' pa_Name (pv 1) ?x92
              case x92 =>
               refine' pa_BinOp ?x93 ?x94
               case x93 =>
                refine' pe_op op_add_str ?x95 ?x96
                case x95 =>
                 refine' pe_op op_add_str ?x97 (pv 4)
                 case x97 =>
                  exact (pe_slice sl_str (pv 2) po_none (po_some (pv 6)))
                case x96 =>
                 exact (pe_slice sl_str (pv 2) (po_some (pv 6)) po_none)
               case x94 =>
                exact pa_nil
           case x88 =>
            refine' pss_one ?x98
            case x98 =>
             refine' ps_ret ?x99
             case x99 =>
              exact pe_bl
           case x89 =>
            exact pss_nil
          case x86 =>
           refine' pss_cons ?x100 ?x101
           case x100 =>
            refine' ps_if ?x102 ?x103 ?x104
            case x102 =>
             refine' PW.pt ?x105
             case x105 =>
              refine' pw_or ?x106 ?x107
              case x106 =>
               refine' pt_cmpR op_notN ?x108 ?x109 (nomark _)
               case x108 =>
                refine' pe_callC c_parts hr rfl ?x110
                case x110 =>
                 refine' pa_Name (pv 1) ?x111
                 case x111 =>
                  refine' pa_Name (pv 1) ?x112
                  case x112 =>
                   exact pa_nil
               case x109 =>
                exact pe_non
              case x107 =>
               refine' pw_or1 ?x113
               case x113 =>
                refine' pt_cmpR op_notN ?x114 ?x115 (nomark _)
                case x114 =>
                 refine' pe_callC c_parts hr rfl ?x116
                 case x116 =>
                  refine' pa_Name (pv 1) ?x117
                  case x117 =>
                   refine' pa_BinOp ?x118 ?x119
                   case x118 =>
                    refine' pe_op op_add_str ?x120 ?x121
                    case x120 =>
                     refine' pe_op op_add_str ?x122 (pv 4)
                     case x122 =>
                      exact (pe_slice sl_str (pv 1) po_none (po_some (pv 5)))
                    case x121 =>
                     exact (pe_slice sl_str (pv 1) (po_some (pv 5)) po_none)
                   case x119 =>
                    exact pa_nil
                case x115 =>
                 exact pe_non
            case x103 =>
             refine' pss_one ?x123
             case x123 =>
              refine' ps_ret ?x124
              case x124 =>
               exact pe_bl
            case x104 =>
             exact pss_nil
           case x101 =>
            refine' pss_cons ?x125 ?x126
            case x125 =>
             refine' ps_if ?x127 ?x128 ?x129
             case x127 =>
              refine' PW.pt ?x130
              case x130 =>
               refine' pw_or ?x131 ?x132
               case x131 =>
                refine' pt_cmpR op_ne ?x133 ?x134 (nomark _)
                case x133 =>
                 refine' pe_cmpR op_isN ?x135 ?x136 (nomark _)
                 case x135 =>
                  refine' pe_callC c_parts hr rfl ?x137
                  case x137 =>
                   refine' pa_BinOp ?x138 ?x139
                   case x138 =>
                    exact (pe_op op_add_str (pv 4) (pv 1))
                   case x139 =>
                    refine' pa_BinOp ?x140 ?x141
                    case x140 =>
                     exact (pe_op op_add_str (pv 4) (pv 2))
                    case x141 =>
                     exact pa_nil
                 case x136 =>
                  exact pe_non
                case x134 =>
                 refine' pe_cmpR op_eq (pv 3) ?x142 (nomark _)
                 case x142 =>
                  exact pe_int
               case x132 =>
                refine' pw_or1 ?x143
                case x143 =>
                 refine' pt_cmpR op_lt ?x144 (pv 3) (nomark _)
                 case x144 =>
                  refine' pe_callC c_law_size hr rfl ?x145
                  case x145 =>
                   refine' pa_BinOp ?x146 ?x147
                   case x146 =>
                    exact (pe_op op_add_str (pv 1) (pv 4))
                   case x147 =>
                    refine' pa_BinOp ?x148 ?x149
                    case x148 =>
                     exact (pe_op op_add_str (pv 2) (pv 4))
                    case x149 =>
                     exact pa_nil
             case x128 =>
              refine' pss_one ?x150
              case x150 =>
               refine' ps_ret ?x151
               case x151 =>
                exact pe_bl
             case x129 =>
              exact pss_nil
            case x126 =>
             refine' pss_cons ?x152 ?x153
             case x152 =>
              refine' ps_if ?x154 ?x155 ?x156
              case x154 =>
               refine' PW.pt ?x157
               case x157 =>
                refine' pw_or ?x158 ?x159
                case x158 =>
                 refine' pt_cmpR op_lt ?x160 (pv 3) (nomark _)
                 case x160 =>
                  refine' pe_callC c_law_size hr rfl ?x161
                  case x161 =>
                   refine' pa_BinOp ?x162 ?x163
                   case x162 =>
                    exact (pe_op op_add_str (pv 4) (pv 1))
                   case x163 =>
                    refine' pa_BinOp ?x164 ?x165
                    case x164 =>
                     exact (pe_op op_add_str (pv 4) (pv 2))
                    case x165 =>
                     exact pa_nil
                case x159 =>
                 refine' pw_or1 ?x166
                 case x166 =>
                  refine' pt_cmpR op_ne ?x167 ?x168 (nomark _)
                  case x167 =>
                   refine' pe_callC c_law_size hr rfl ?x169
                   case x169 =>
                    refine' pa_Name (pv 1) ?x170
                    case x170 =>
                     refine' pa_Const ?x171 ?x172
                     case x171 =>
                      exact pe_str
                     case x172 =>
                      exact pa_nil
                  case x168 =>
                   refine' pe_ix ix_list ?x173 ?x174 (fun _ _ => rfl)
                   case x173 =>
                    refine' pe_lst ?x175
                    case x175 =>
                     refine' pa_Const ?x176 ?x177
                     case x176 =>
                      exact pe_int
                     case x177 =>
                      refine' pa_Const ?x178 ?x179
                      case x178 =>
                       exact pe_int
                      case x179 =>
                       exact pa_nil
                   case x174 =>
                    refine' pe_callTy call_int1 rfl T.m_int (by decide +kernel) ?x180
                    case x180 =>
                     refine' pa_Compare ?x181 ?x182
                     case x181 =>
                      refine' pe_cmpR op_ne (pv 1) ?x183 (nomark _)
                      case x183 =>
                       exact pe_str
                     case x182 =>
                      exact pa_nil
              case x155 =>
               refine' pss_one ?x184
               case x184 =>
                refine' ps_ret ?x185
                case x185 =>
                 exact pe_bl
              case x156 =>
               exact pss_nil
             case x153 =>
              refine' pss_one ?x186
              case x186 =>
               refine' ps_ret ?x187
               case x187 =>
                refine' pe_cmpR op_isN ?x188 ?x189 (nomark _)
                case x188 =>
                 refine' pe_callC c_parts hr rfl ?x190
                 case x190 =>
                  refine' pa_Const ?x191 ?x192
                  case x191 =>
                   exact pe_str
                  case x192 =>
                   refine' pa_Name (pv 2) ?x193
                   case x193 =>
                    exact pa_nil
                case x189 =>
                 exact pe_non
  case RR =>
    have ez := len_cps z
    have ey := len_cps y
    have z80 := small80 (n := z.length) (by omega)
    have y80 := small80 (n := y.length) (by omega)
    refine ⟨_, rfl, _, rfl, z, y, rfl, rz, ry, by omega, by omega, fun n H1 hn s1 => ?_⟩
    have hD1 := hD.same s1
    refine ⟨_, rfl, p, 26, rfl, hD1, by decide, fun v H2 v0 v1 hD2 k2 => ?_⟩
    refine ⟨_, rfl, ?_⟩
    have rd := abcC_ok v
    generalize abcC v = d at rd
    refine ⟨_, rfl, p, 1000, rfl, hD2, by decide, fun a1 H3 a10 _ hD3 k3 => ?_⟩
    refine ⟨_, rfl, z, rfl, z80, _, _, rfl, rfl, _, _, rfl, rfl, by omega, ?_⟩
    have a0 : 0 ≤ a1 % ((z.length : Int) + 1) := Int.emod_nonneg _ (by omega)
    have a2 : a1 % ((z.length : Int) + 1) < (z.length : Int) + 1 := Int.emod_lt_of_pos _ (by omega)
    obtain ⟨av, hav⟩ : ∃ av : Nat, a1 % ((z.length : Int) + 1) = (av : Int) := ⟨(a1 % ((z.length : Int) + 1)).toNat, by omega⟩
    show gName 5 (V.int (a1 % ((z.length : Int) + 1))) _ _ _
    rw [hav] at a2 ⊢
    refine ⟨_, rfl, p, 1000, rfl, hD3, by decide, fun b1 H4 b10 _ hD4 k4 => ?_⟩
    refine ⟨_, rfl, y, rfl, y80, _, _, rfl, rfl, _, _, rfl, rfl, by omega, ?_⟩
    have b0 : 0 ≤ b1 % ((y.length : Int) + 1) := Int.emod_nonneg _ (by omega)
    have b2 : b1 % ((y.length : Int) + 1) < (y.length : Int) + 1 := Int.emod_lt_of_pos _ (by omega)
    obtain ⟨bv, hbv⟩ : ∃ bv : Nat, b1 % ((y.length : Int) + 1) = (bv : Int) := ⟨(b1 % ((y.length : Int) + 1)).toNat, by omega⟩
    show gName 6 (V.int (b1 % ((y.length : Int) + 1))) _ _ _
    rw [hbv] at b2 ⊢
    have k04 : Kp p H H4 := (s1.kp p).trans (k2.trans (k3.trans k4))
    have lsg : (sg d).length = 1 := rfl
    have rsg : IsRow (sg d) := row_sg rd
    have lrz : (revS z).length = z.length := revS_length z
    have lry : (revS y).length = y.length := revS_length y
    -- from behind
    refine ⟨_, rfl, z, rfl, z80, _, rfl, y, rfl, y80, _, _, rfl, rz.rev, ry.rev, by omega, by omega, fun n5 H5 hn5 s5 => ?_⟩
    rw [rev_cps, rev_cps] at hn5
    obtain rfl := ptz_rev hn hn5 (by omega)
    refine ⟨_, rfl, rfl, _, rfl, ?_⟩
    rw [decide_eq_true rfl]
    refine iteF ?_
    -- the one with a letter more
    have cA := cutA z (a := (av : Int)) (by omega)
    have cB := cutB z (a := (av : Int)) (by omega)
    refine ⟨_, rfl, _, rfl, _, rfl, z, rfl, z80, _, rfl, _, _, rfl, rfl, by rw [cA, len_sg]; exact small80 (by omega), _, rfl, _, rfl, _, rfl, z, rfl, z80, _, _, rfl, rfl, by rw [lenApp, cA, len_sg, cB]; exact small80 (by omega), ?_⟩
    obtain ⟨u, hu_⟩ : ∃ u, u = cutS z none (some (av : Int)) ++ sg d ++ cutS z (some (av : Int)) none := ⟨_, rfl⟩
    have ru := row_putL rz rd hu_
    have eu : u.cps.toList = z.cps.toList.take av ++ [d] ++ z.cps.toList.drop av := by rw [hu_, put_cps]
    have lu : u.length = z.length + 1 := by rw [hu_, lenApp, lenApp, cA, cB, len_sg]; omega
    rw [← hu_]
    refine ⟨_, rfl, u, y, rfl, ru, ry, by omega, by omega, fun n6 H6 hn6 s6 => ?_⟩
    have g6 := ptz_more hn hn6 (by rw [← len_cps]; omega) (by rw [eu]; exact put_sub _ _ _)
    refine ⟨_, rfl, _, _, rfl, rfl, _, rfl, ?_⟩
    rw [decide_eq_false (by omega)]
    refine iteF ?_
    -- the other one with a letter more
    have cA2 := cutA y (a := (bv : Int)) (by omega)
    have cB2 := cutB y (a := (bv : Int)) (by omega)
    refine ⟨_, rfl, _, rfl, _, rfl, _, rfl, y, rfl, y80, _, rfl, _, _, rfl, rfl, by rw [cA2, len_sg]; exact small80 (by omega), _, rfl, _, rfl, _, rfl, y, rfl, y80, _, _, rfl, rfl, by rw [lenApp, cA2, len_sg, cB2]; exact small80 (by omega), ?_⟩
    obtain ⟨x, hx_⟩ : ∃ u, u = cutS y none (some (bv : Int)) ++ sg d ++ cutS y (some (bv : Int)) none := ⟨_, rfl⟩
    have rx := row_putL ry rd hx_
    have ex : x.cps.toList = y.cps.toList.take bv ++ [d] ++ y.cps.toList.drop bv := by rw [hx_, put_cps]
    have lx : x.length = y.length + 1 := by rw [hx_, lenApp, lenApp, cA2, cB2, len_sg]; omega
    rw [← hx_]
    refine ⟨z, x, rfl, rz, rx, by omega, by omega, fun n7 H7 hn7 s7 => ?_⟩
    have g7 := ptz_other hn hn7 (by omega) (by rw [ex]; exact put_sub _ _ _)
    refine ⟨_, rfl, _, _, rfl, rfl, _, rfl, ?_⟩
    rw [decide_eq_false (by omega)]
    refine iteF ?_
    -- itself, and itself with a letter more
    refine ⟨_, rfl, _, rfl, z, z, rfl, rz, rz, by omega, by omega, fun o8 H8 ho8 s8 => ?_⟩
    obtain rfl := pt_sub ho8 (List.Sublist.refl _)
    refine ⟨rfl, _, rfl, ?_⟩
    refine iteF ?_
    refine ⟨_, rfl, _, rfl, _, rfl, _, rfl, z, rfl, z80, _, rfl, _, _, rfl, rfl, by rw [cA, len_sg]; exact small80 (by omega), _, rfl, _, rfl, _, rfl, z, rfl, z80, _, _, rfl, rfl, by rw [lenApp, cA, len_sg, cB]; exact small80 (by omega), ?_⟩
    rw [← hu_]
    refine ⟨z, u, rfl, rz, ru, by omega, by omega, fun o9 H9 ho9 s9 => ?_⟩
    obtain rfl := pt_sub ho9 (by rw [eu]; exact put_sub _ _ _)
    refine ⟨rfl, _, rfl, ?_⟩
    refine iteF ?_
    -- a letter ahead of both, behind both
    have eA1 : (sg d ++ z).cps.toList = d :: z.cps.toList := by rw [app_cps]; rfl
    have eA2 : (sg d ++ y).cps.toList = d :: y.cps.toList := by rw [app_cps]; rfl
    have eB1 : (z ++ sg d).cps.toList = z.cps.toList ++ [d] := by rw [app_cps]; rfl
    have eB2 : (y ++ sg d).cps.toList = y.cps.toList ++ [d] := by rw [app_cps]; rfl
    have lA1 : (sg d ++ z).length = z.length + 1 := by rw [lenApp, lsg]; omega
    have lA2 : (sg d ++ y).length = y.length + 1 := by rw [lenApp, lsg]; omega
    have lB1 : (z ++ sg d).length = z.length + 1 := by rw [lenApp, lsg]
    have lB2 : (y ++ sg d).length = y.length + 1 := by rw [lenApp, lsg]
    have b1' : (sg d).length + z.length ≤ sizeLine := by rw [lsg]; exact small80 (by omega)
    have b2' : (sg d).length + y.length ≤ sizeLine := by rw [lsg]; exact small80 (by omega)
    have b3' : z.length + (sg d).length ≤ sizeLine := by rw [lsg]; exact small80 (by omega)
    have b4' : y.length + (sg d).length ≤ sizeLine := by rw [lsg]; exact small80 (by omega)
    refine ⟨_, rfl, _, rfl, _, _, rfl, rfl, b1', _, rfl, _, rfl, _, _, rfl, rfl, b2', sg d ++ z, sg d ++ y, rfl, rsg.app rz, rsg.app ry, by omega, by omega, fun o10 H10 ho10 s10 => ?_⟩
    rw [eA1, eA2] at ho10
    have e10 : decide (optS o10 = V.non) = decide (V.int n5 = V.int 1000) := decide_eq_decide.mpr (optS_non.trans ((pt_none_iff ho10).trans (sub_both.trans ((hn.left (by omega)).trans ⟨fun h => by rw [h], fun h => V.int.inj h⟩))))
    refine ⟨rfl, _, rfl, rfl, rfl, _, rfl, ?_⟩
    rw [e10, decide_eq_true rfl]
    refine iteF ?_
    refine ⟨_, rfl, _, rfl, _, _, rfl, rfl, b3', _, rfl, _, rfl, _, _, rfl, rfl, b4', z ++ sg d, y ++ sg d, rfl, rz.app rsg, ry.app rsg, by omega, by omega, fun n11 H11 hn11 s11 => ?_⟩
    rw [eB1, eB2] at hn11
    have g11 := ptz_behind hn hn11 (by omega)
    refine ⟨_, rfl, _, _, rfl, rfl, _, rfl, ?_⟩
    rw [decide_eq_false (by omega)]
    refine iteF ?_
    refine ⟨_, rfl, _, rfl, _, _, rfl, rfl, b1', _, rfl, _, rfl, _, _, rfl, rfl, b2', sg d ++ z, sg d ++ y, rfl, rsg.app rz, rsg.app ry, by omega, by omega, fun n12 H12 hn12 s12 => ?_⟩
    rw [eA1, eA2] at hn12
    have g12 := ptz_ahead hn hn12 (by omega)
    refine ⟨_, rfl, _, _, rfl, rfl, _, rfl, ?_⟩
    rw [decide_eq_false (by omega)]
    refine iteF ?_
    have re : IsRow (Str.ofString "") := fun c hc => by
      have : (Str.ofString "").cps.toList = [] := by decide +kernel
      rw [this] at hc; cases hc
    have ee : (Str.ofString "").cps.toList = [] := by decide +kernel
    refine ⟨_, rfl, z, _, rfl, rz, re, by omega, by decide +kernel, fun n13 H13 hn13 s13 => ?_⟩
    rw [ee] at hn13
    have g13 := ptz_nil hn13 (by omega)
    refine ⟨(by show 2 ≤ sizeLine; decide), fun L nL => ?_⟩
    generalize jL : upd H13 L _ = H14
    have s14 := upS jL nL; have e14 := upE jL
    refine ⟨_, rfl, rfl, .inr ⟨_, rfl, ?_⟩⟩
    have hat : atI [V.int 1000, V.int 1] (if (!decide (V.str z = V.str (Str.ofString ""))) = true then 1 else 0) = some (V.int n13) := by
      rw [g13]
      by_cases g : z.cps.toList = []
      · have : z = Str.ofString "" := str_ext (by rw [g, ee])
        rw [if_pos g, decide_eq_true (show V.str z = V.str (Str.ofString "") by rw [this]), if_neg (by decide)]
        rfl
      · rw [if_neg g, decide_eq_false (show ¬ V.str z = V.str (Str.ofString "") from fun h => g (by rw [V.str.inj h, ee])), if_pos (by decide)]
        rfl
    refine ⟨L, _, _, _, rfl, rfl, SqL.of e14, hat, rfl, _, rfl, ?_⟩
    rw [decide_eq_true rfl]
    refine iteF ?_
    refine ⟨_, rfl, _, y, rfl, re, ry, by decide +kernel, by omega, fun o15 H15 ho15 s15 => ?_⟩
    obtain rfl := pt_sub ho15 (by rw [ee]; exact List.nil_sublist _)
    have sAll : Same H4 H15 := s5.trans (s6.trans (s7.trans (s8.trans (s9.trans (s10.trans (s11.trans (s12.trans (s13.trans (s14.trans s15)))))))))
    refine ⟨rfl, ?_⟩
    exact q H15 (hD4.same sAll) (k04.trans (sAll.kp p))
end
end Lv
set_option Elab.async false
set_option linter.all false
set_option maxRecDepth 100000
set_option maxHeartbeats 8000000
namespace Lv
open PySem L2
section
variable {P : Program} {w : World} {K : PySem.W.Frag} {mg : Str → Option Value} {base : Heap} {f : Addr} {fd : FuncData}
abbrev sLaw : Stmt := top 17
def nLaw : List Str := ["script", "draws", "many", "signs", "one", "other"]
theorem scLaw : FnScope nLaw ["script"] (defScope sLaw) := ⟨rfl, rfl, rfl, by decide +kernel, rfl, by decide +kernel, by decide +kernel⟩
theorem ok_law (T : Glb mg) (c_law_draws : Callee P w K mg base 1 "_law_draws" ["script"] (spDraws K)) (c_law_signs : Callee P w K mg base 2 "_law_signs" ["draws"] spSigns) (c_law_row : Callee P w K mg base 2 "_law_row" ["draws", "signs", "most"] spRowC) (c_law_other : Callee P w K mg base 3 "_law_other" ["draws", "one", "signs", "most"] spOtherN) (c_law_right : Callee P w K mg base 5 "_law_right" ["draws", "one", "other"] spRightPt) (F : Fun K "law" "law" sLaw f fd) : FnOk P w K mg base CX0 7 f fd ["script"] (spLaw K) := by
  refine F.ok scLaw (fun vs H Q E h => ?_) (fun cdv A outer s H vs Q E hr h => ?_)
  · obtain ⟨a, ns, rfl, _⟩ := h
    rfl
  obtain ⟨a, ns, rfl, hS, h63, hO, q⟩ := h
  have hu := hu_of hr
  refine' ⟨_, ?TT, ?RR⟩
  case TT =>
    refine' pss_cons ?x194 ?x195
    case x194 =>
     refine' ps_set (i := 1) scLaw.nd rfl (Or.inl rfl) ?x196
     case x196 =>
      refine' pe_callC c_law_draws hr rfl ?x197
      case x197 =>
       refine' pa_Name (pv 0) ?x198
       case x198 =>
        exact pa_nil
    case x195 =>
     refine' pss_cons ?x199 ?x200
     case x199 =>
      refine' ps_set (i := 2) scLaw.nd rfl (Or.inl rfl) ?x201
      case x201 =>
       exact pe_int
     case x200 =>
      refine' pss_cons ?x202 ?x203
      case x202 =>
       refine' ps_while PassesOwn.never ?x204 ?x205
       case x204 =>
        refine' pt_cut ?x206
        case x206 =>
         refine' PW.pt ?x207
         case x207 =>
          refine' pw_or ?x208 ?x209
          case x208 =>
           refine' pt_cmpR op_lt (pv 2) ?x210 (nomark _)
           case x210 =>
            exact pe_int
          case x209 =>
           refine' pw_or1 ?x211
           case x211 =>
            refine' PW.pt ?x212
            case x212 =>
             refine' pw_and ?x213 ?x214
             case x213 =>
              refine' pt_cmpR (op_neD hr.units) (pv 1) ?x215 (nomark _)
              case x215 =>
               refine' pe_lst ?x216
               case x216 =>
                exact pa_nil
             case x214 =>
              refine' pw_and1 ?x217
              case x217 =>
               refine' pt_cmpR op_lt (pv 2) ?x218 (nomark _)
               case x218 =>
                exact pe_int
       case x205 =>
        refine' pss_cons ?x219 ?x220
        case x219 =>
         refine' ps_set (i := 3) scLaw.nd rfl (Or.inl rfl) ?x221
         case x221 =>
          refine' pe_callC c_law_signs hr rfl ?x222
          case x222 =>
           refine' pa_Name (pv 1) ?x223
           case x223 =>
            exact pa_nil
        case x220 =>
         refine' pss_cons ?x224 ?x225
         case x224 =>
          refine' ps_set (i := 4) scLaw.nd rfl (Or.inl rfl) ?x226
          case x226 =>
           refine' pe_callC c_law_row hr rfl ?x227
           case x227 =>
            refine' pa_Name (pv 1) ?x228
            case x228 =>
             refine' pa_Name (pv 3) ?x229
             case x229 =>
              refine' pa_Const ?x230 ?x231
              case x230 =>
               exact pe_int
              case x231 =>
               exact pa_nil
         case x225 =>
          refine' pss_cons ?x232 ?x233
          case x232 =>
           refine' ps_set (i := 5) scLaw.nd rfl (Or.inl rfl) ?x234
           case x234 =>
            refine' pe_callC c_law_other hr rfl ?x235
            case x235 =>
             refine' pa_Name (pv 1) ?x236
             case x236 =>
              refine' pa_Name (pv 4) ?x237
              case x237 =>
               refine' pa_Name (pv 3) ?x238
               case x238 =>
                refine' pa_Const ?x239 ?x240
                case x239 =>
                 exact pe_int
                case x240 =>
                 exact pa_nil
          case x233 =>
           refine' pss_cons ?x241 ?x242
           case x241 =>
            refine' ps_if ?x243 ?x244 ?x245
            case x243 =>
             refine' PW.pt ?x246
             case x246 =>
              refine' pw_or ?x247 ?x248
              case x247 =>
               refine' pt_not ?x249
               case x249 =>
                refine' pt_val ?x250
                case x250 =>
                 refine' pe_callC c_law_right hr rfl ?x251
                 case x251 =>
                  refine' pa_Name (pv 1) ?x252
                  case x252 =>
                   refine' pa_Name (pv 4) ?x253
                   case x253 =>
                    refine' pa_Name (pv 5) ?x254
                    case x254 =>
                     exact pa_nil
              case x248 =>
               refine' pw_or1 ?x255
               case x255 =>
                refine' pt_not ?x256
                case x256 =>
                 refine' pt_val ?x257
                 case x257 =>
                  refine' pe_callC c_law_right hr rfl ?x258
                  case x258 =>
                   refine' pa_Name (pv 1) ?x259
                   case x259 =>
                    refine' pa_Name (pv 5) ?x260
                    case x260 =>
                     refine' pa_Name (pv 4) ?x261
                     case x261 =>
                      exact pa_nil
            case x244 =>
             refine' pss_one ?x262
             case x262 =>
              refine' ps_ret ?x263
              case x263 =>
               exact pe_bl
            case x245 =>
             exact pss_nil
           case x242 =>
            refine' pss_one ?x264
            case x264 =>
             refine' ps_set (i := 2) scLaw.nd rfl (Or.inl rfl) ?x265
             case x265 =>
              refine' pe_op op_add (pv 2) ?x266
              case x266 =>
               exact pe_int
      case x203 =>
       refine' pss_one ?x267
       case x267 =>
        refine' ps_ret ?x268
        case x268 =>
         exact pe_bl
  case RR =>
    have hScr := Scr.of hS hO
    refine ⟨_, rfl, a, ns, rfl, hS, hScr, h63, fun p H1 np hD1 s1 => ?_⟩
    refine ⟨fun k σ H' => ∃ (mm : Nat) (v3 v4 v5 : Option V), k = 3 - mm ∧ σ = [some (.ref a), some (.ref p), some (.int (mm : Nat)), v3, v4, v5] ∧ DrawsAt H' p ∧ mm ≤ 3, ⟨3, 0, _, _, _, rfl, rfl, hD1, by decide⟩, ?_⟩
    rintro k σ H7 ⟨mm, v3, v4, v5, hk, rfl, hD7, hmm⟩
    refine ⟨fun b H' => Same H7 H' ∧ (b = true → mm < 3), ?_, ?_⟩
    · refine ⟨_, rfl, _, _, rfl, rfl, _, rfl, ?_⟩
      refine ite2 (fun c => ?_) (fun c => ?_)
      · have c' : (mm : Int) < 1 := of_decide_eq_true c
        exact ⟨Same.refl _, fun _ => by omega⟩
      · obtain ⟨ds, hds, _⟩ := hD7.ex
        refine ⟨_, rfl, (by show 0 ≤ sizeLine; decide), fun l nl => ?_⟩
        have s5 := same_new nl (.lst [])
        refine ⟨_, _, Dp.ints (SqL.of (s5 _ _ hds)), Dp.ints (ns := []) (SqL.of upd_same), shaped_ints _, shaped_ints _, _, rfl, ?_⟩
        refine ite2 (fun _ => ?_) (fun _ => ?_)
        · refine ⟨_, rfl, _, _, rfl, rfl, _, rfl, s5, fun h => ?_⟩
          have h' : (mm : Int) < 3 := of_decide_eq_true h
          omega
        · exact ⟨s5, (fun h => nomatch h)⟩
    rintro b H8 ⟨s8, hb⟩
    have hD8 := hD7.same s8
    cases b with
    | true =>
      refine iteT ?_
      have hm30 := hb rfl
      refine ⟨_, fun σ' H' h => h, ?_⟩
      refine ⟨_, rfl, p, rfl, hD8, fun q0 cs H2 hS2 nqp nq hD2 k2 => ?_⟩
      refine ⟨_, rfl, _, rfl, p, q0, 79, cs, rfl, hD2, hS2, nqp, by decide, by decide, fun z H3 rz lz _ hD3 k3 => ?_⟩
      have hS3 := hS2.kp k3 nqp
      refine ⟨_, rfl, _, rfl, _, rfl, p, q0, z, cs, 79, rfl, by decide, by decide, hD3, hS3, nqp, rz, lz, fun y H4 ry ly hD4 k4 => ?_⟩
      refine ⟨_, rfl, _, rfl, _, rfl, p, z, y, rfl, hD4, rz, ry, lz, ly, fun H5 hD5 k5 => ⟨true, rfl, ?_⟩⟩
      refine iteF ?_
      refine ⟨_, rfl, _, rfl, _, rfl, p, y, z, rfl, hD5, ry, rz, ly, lz, fun H6 hD6 k6 => ⟨true, rfl, ?_⟩⟩
      refine iteF ?_
      refine ⟨_, rfl, _, _, rfl, rfl, ?_⟩
      exact ⟨3 - (mm + 1), by omega, mm + 1, _, _, _, rfl, rfl, hD6, by omega⟩
    | false =>
      refine iteF ?_
      exact q _
end
end Lv
set_option Elab.async false
set_option linter.all false
set_option maxRecDepth 100000
set_option maxHeartbeats 8000000
namespace Lv
open PySem L2
theorem all_mk {l : PySem.W.OpenLaw} {w : World} {K : PySem.W.Frag} {h : Heap} {mg : Str → Option Value} {fa : Addr} {f1 f2 f3 f4 f5 f6 f7 f8 f9 f10 f11 f12 f13 f14  : Addr} {od1 an1 od2 an2 od3 an3 od4 an4 od5 an5 od6 an6 od7 an7 od8 an8 od9 an9 od10 an10 od11 an11 od12 an12 od13 an13 od14 an14 : Option Addr} {sl1 sl2 sl3 sl4 sl5 sl6 sl7 sl8 sl9 sl10 sl11 sl12 sl13 sl14 : Array (Option Value)} {oc1 kV1 dc1 pm1 cd1 ct1 oc2 kV2 dc2 pm2 cd2 ct2 oc3 kV3 dc3 pm3 cd3 ct3 oc4 kV4 dc4 pm4 cd4 ct4 oc5 kV5 dc5 pm5 cd5 ct5 oc6 kV6 dc6 pm6 cd6 ct6 oc7 kV7 dc7 pm7 cd7 ct7 oc8 kV8 dc8 pm8 cd8 ct8 oc9 kV9 dc9 pm9 cd9 ct9 oc10 kV10 dc10 pm10 cd10 ct10 oc11 kV11 dc11 pm11 cd11 ct11 oc12 kV12 dc12 pm12 cd12 ct12 oc13 kV13 dc13 pm13 cd13 ct13 oc14 kV14 dc14 pm14 cd14 ct14 : Value}
    (X : K.In h) (G : h.Ns mainGlobals mg) (hfa : mg "law" = some (.ref fa))
    (a1 : PySem.W.nsIn K mainGlobals "next_table" = some (some (.ref f1)))
    (l1 : K.lookup f1 = some ⟨oc1, od1, .func (PySem.W.fnOf "next_table" "next_table" (defArgs sNextTable) (defBody sNextTable) (defScope sNextTable) .none kV1 dc1 pm1 an1 cd1 ct1), sl1⟩)
    (c1 : PySem.W.codeIn K cd1 "next_table" = true)
    (k1 : PySem.W.keepIn K (.ref f1) = true)
    (a2 : PySem.W.nsIn K mainGlobals "meetings" = some (some (.ref f2)))
    (l2 : K.lookup f2 = some ⟨oc2, od2, .func (PySem.W.fnOf "meetings" "meetings" (defArgs sMeetings) (defBody sMeetings) (defScope sMeetings) .none kV2 dc2 pm2 an2 cd2 ct2), sl2⟩)
    (c2 : PySem.W.codeIn K cd2 "meetings" = true)
    (k2 : PySem.W.keepIn K (.ref f2) = true)
    (a3 : PySem.W.nsIn K mainGlobals "onward" = some (some (.ref f3)))
    (l3 : K.lookup f3 = some ⟨oc3, od3, .func (PySem.W.fnOf "onward" "onward" (defArgs sOnward) (defBody sOnward) (defScope sOnward) .none kV3 dc3 pm3 an3 cd3 ct3), sl3⟩)
    (c3 : PySem.W.codeIn K cd3 "onward" = true)
    (k3 : PySem.W.keepIn K (.ref f3) = true)
    (a4 : PySem.W.nsIn K mainGlobals "first_alone" = some (some (.ref f4)))
    (l4 : K.lookup f4 = some ⟨oc4, od4, .func (PySem.W.fnOf "first_alone" "first_alone" (defArgs sFirstAlone) (defBody sFirstAlone) (defScope sFirstAlone) .none kV4 dc4 pm4 an4 cd4 ct4), sl4⟩)
    (c4 : PySem.W.codeIn K cd4 "first_alone" = true)
    (k4 : PySem.W.keepIn K (.ref f4) = true)
    (a5 : PySem.W.nsIn K mainGlobals "parts" = some (some (.ref f5)))
    (l5 : K.lookup f5 = some ⟨oc5, od5, .func (PySem.W.fnOf "parts" "parts" (defArgs sParts) (defBody sParts) (defScope sParts) .none kV5 dc5 pm5 an5 cd5 ct5), sl5⟩)
    (c5 : PySem.W.codeIn K cd5 "parts" = true)
    (k5 : PySem.W.keepIn K (.ref f5) = true)
    (a6 : PySem.W.nsIn K mainGlobals "_law_draws" = some (some (.ref f6)))
    (l6 : K.lookup f6 = some ⟨oc6, od6, .func (PySem.W.fnOf "_law_draws" "_law_draws" (defArgs sLawDraws) (defBody sLawDraws) (defScope sLawDraws) .none kV6 dc6 pm6 an6 cd6 ct6), sl6⟩)
    (c6 : PySem.W.codeIn K cd6 "_law_draws" = true)
    (k6 : PySem.W.keepIn K (.ref f6) = true)
    (a7 : PySem.W.nsIn K mainGlobals "_law_take" = some (some (.ref f7)))
    (l7 : K.lookup f7 = some ⟨oc7, od7, .func (PySem.W.fnOf "_law_take" "_law_take" (defArgs sLawTake) (defBody sLawTake) (defScope sLawTake) .none kV7 dc7 pm7 an7 cd7 ct7), sl7⟩)
    (c7 : PySem.W.codeIn K cd7 "_law_take" = true)
    (k7 : PySem.W.keepIn K (.ref f7) = true)
    (a8 : PySem.W.nsIn K mainGlobals "_law_abc" = some (some (.ref f8)))
    (l8 : K.lookup f8 = some ⟨oc8, od8, .func (PySem.W.fnOf "_law_abc" "_law_abc" (defArgs sLawAbc) (defBody sLawAbc) (defScope sLawAbc) .none kV8 dc8 pm8 an8 cd8 ct8), sl8⟩)
    (c8 : PySem.W.codeIn K cd8 "_law_abc" = true)
    (k8 : PySem.W.keepIn K (.ref f8) = true)
    (a9 : PySem.W.nsIn K mainGlobals "_law_signs" = some (some (.ref f9)))
    (l9 : K.lookup f9 = some ⟨oc9, od9, .func (PySem.W.fnOf "_law_signs" "_law_signs" (defArgs sLawSigns) (defBody sLawSigns) (defScope sLawSigns) .none kV9 dc9 pm9 an9 cd9 ct9), sl9⟩)
    (c9 : PySem.W.codeIn K cd9 "_law_signs" = true)
    (k9 : PySem.W.keepIn K (.ref f9) = true)
    (a10 : PySem.W.nsIn K mainGlobals "_law_row" = some (some (.ref f10)))
    (l10 : K.lookup f10 = some ⟨oc10, od10, .func (PySem.W.fnOf "_law_row" "_law_row" (defArgs sLawRow) (defBody sLawRow) (defScope sLawRow) .none kV10 dc10 pm10 an10 cd10 ct10), sl10⟩)
    (c10 : PySem.W.codeIn K cd10 "_law_row" = true)
    (k10 : PySem.W.keepIn K (.ref f10) = true)
    (a11 : PySem.W.nsIn K mainGlobals "_law_other" = some (some (.ref f11)))
    (l11 : K.lookup f11 = some ⟨oc11, od11, .func (PySem.W.fnOf "_law_other" "_law_other" (defArgs sLawOther) (defBody sLawOther) (defScope sLawOther) .none kV11 dc11 pm11 an11 cd11 ct11), sl11⟩)
    (c11 : PySem.W.codeIn K cd11 "_law_other" = true)
    (k11 : PySem.W.keepIn K (.ref f11) = true)
    (a12 : PySem.W.nsIn K mainGlobals "_law_size" = some (some (.ref f12)))
    (l12 : K.lookup f12 = some ⟨oc12, od12, .func (PySem.W.fnOf "_law_size" "_law_size" (defArgs sLawSize) (defBody sLawSize) (defScope sLawSize) .none kV12 dc12 pm12 an12 cd12 ct12), sl12⟩)
    (c12 : PySem.W.codeIn K cd12 "_law_size" = true)
    (k12 : PySem.W.keepIn K (.ref f12) = true)
    (a13 : PySem.W.nsIn K mainGlobals "_law_right" = some (some (.ref f13)))
    (l13 : K.lookup f13 = some ⟨oc13, od13, .func (PySem.W.fnOf "_law_right" "_law_right" (defArgs sLawRight) (defBody sLawRight) (defScope sLawRight) .none kV13 dc13 pm13 an13 cd13 ct13), sl13⟩)
    (c13 : PySem.W.codeIn K cd13 "_law_right" = true)
    (k13 : PySem.W.keepIn K (.ref f13) = true)
    (a14 : PySem.W.nsIn K mainGlobals "law" = some (some (.ref f14)))
    (l14 : K.lookup f14 = some ⟨oc14, od14, .func (PySem.W.fnOf "law" "law" (defArgs sLaw) (defBody sLaw) (defScope sLaw) .none kV14 dc14 pm14 an14 cd14 ct14), sl14⟩)
    (c14 : PySem.W.codeIn K cd14 "law" = true)
    (k14 : PySem.W.keepIn K (.ref f14) = true)
    (z_range : PySem.W.nsIn K mainGlobals "range" = some none)
    (z_len : PySem.W.nsIn K mainGlobals "len" = some none)
    (z_max : PySem.W.nsIn K mainGlobals "max" = some none)
    (z_min : PySem.W.nsIn K mainGlobals "min" = some none)
    (z_int : PySem.W.nsIn K mainGlobals "int" = some none)
    (z_bool : PySem.W.nsIn K mainGlobals "bool" = some none)
    (z_str : PySem.W.nsIn K mainGlobals "str" = some none)
    (z_list : PySem.W.nsIn K mainGlobals "list" = some none)
    (z_tuple : PySem.W.nsIn K mainGlobals "tuple" = some none)
    (z_dict : PySem.W.nsIn K mainGlobals "dict" = some none)
    (z_set : PySem.W.nsIn K mainGlobals "set" = some none)
    (z_sum : PySem.W.nsIn K mainGlobals "sum" = some none)
    (z_sorted : PySem.W.nsIn K mainGlobals "sorted" = some none)
    (z_enumerate : PySem.W.nsIn K mainGlobals "enumerate" = some none)
    (z_isinstance : PySem.W.nsIn K mainGlobals "isinstance" = some none)
    (z_reversed : PySem.W.nsIn K mainGlobals "reversed" = some none)
    (z_repr : PySem.W.nsIn K mainGlobals "repr" = some none)
    (z_all : PySem.W.nsIn K mainGlobals "all" = some none)
    (z_zip : PySem.W.nsIn K mainGlobals "zip" = some none)
    (z_abs : PySem.W.nsIn K mainGlobals "abs" = some none) :
    ∃ fd : FuncData, (∀ (s : Shared) (v : Value), BindsTo s fd ⟨[v], []⟩ [("script", v)]) ∧ ∀ base : Heap, K.In base → base.Ns mainGlobals mg → FnOk l.prog w K mg base CX0 7 fa fd ["script"] (spLaw K) := by
  have e := hfa.symm.trans (PySem.W.mg_of X G a14)
  cases e
  have T : Glb mg := Glb.mk_ X G z_range z_len z_max z_min z_int z_bool z_str z_list z_tuple z_dict z_set z_sum z_sorted z_enumerate z_isinstance z_reversed z_repr z_all z_zip
  have m_abs : mg "abs" = none := PySem.W.mg_none_of X G z_abs
  have F1 := fun_mk (st := sNextTable) l1 c1 k1
  have b1 := F1.binds (ps := ["row"]) fun _ _ _ _ _ _ us hl => match us, hl with | [_], _ => rfl
  have F2 := fun_mk (st := sMeetings) l2 c2 k2
  have b2 := F2.binds (ps := ["one", "other"]) fun _ _ _ _ _ _ us hl => match us, hl with | [_, _], _ => rfl
  have F3 := fun_mk (st := sOnward) l3 c3 k3
  have b3 := F3.binds (ps := ["one", "other"]) fun _ _ _ _ _ _ us hl => match us, hl with | [_, _], _ => rfl
  have F4 := fun_mk (st := sFirstAlone) l4 c4 k4
  have b4 := F4.binds (ps := ["heads", "others"]) fun _ _ _ _ _ _ us hl => match us, hl with | [_, _], _ => rfl
  have F5 := fun_mk (st := sParts) l5 c5 k5
  have b5 := F5.binds (ps := ["one", "other"]) fun _ _ _ _ _ _ us hl => match us, hl with | [_, _], _ => rfl
  have F6 := fun_mk (st := sLawDraws) l6 c6 k6
  have b6 := F6.binds (ps := ["script"]) fun _ _ _ _ _ _ us hl => match us, hl with | [_], _ => rfl
  have F7 := fun_mk (st := sLawTake) l7 c7 k7
  have b7 := F7.binds (ps := ["draws", "many"]) fun _ _ _ _ _ _ us hl => match us, hl with | [_, _], _ => rfl
  have F8 := fun_mk (st := sLawAbc) l8 c8 k8
  have b8 := F8.binds (ps := ["k"]) fun _ _ _ _ _ _ us hl => match us, hl with | [_], _ => rfl
  have F9 := fun_mk (st := sLawSigns) l9 c9 k9
  have b9 := F9.binds (ps := ["draws"]) fun _ _ _ _ _ _ us hl => match us, hl with | [_], _ => rfl
  have F10 := fun_mk (st := sLawRow) l10 c10 k10
  have b10 := F10.binds (ps := ["draws", "signs", "most"]) fun _ _ _ _ _ _ us hl => match us, hl with | [_, _, _], _ => rfl
  have F11 := fun_mk (st := sLawOther) l11 c11 k11
  have b11 := F11.binds (ps := ["draws", "one", "signs", "most"]) fun _ _ _ _ _ _ us hl => match us, hl with | [_, _, _, _], _ => rfl
  have F12 := fun_mk (st := sLawSize) l12 c12 k12
  have b12 := F12.binds (ps := ["one", "other"]) fun _ _ _ _ _ _ us hl => match us, hl with | [_, _], _ => rfl
  have F13 := fun_mk (st := sLawRight) l13 c13 k13
  have b13 := F13.binds (ps := ["draws", "one", "other"]) fun _ _ _ _ _ _ us hl => match us, hl with | [_, _, _], _ => rfl
  have F14 := fun_mk (st := sLaw) l14 c14 k14
  have b14 := F14.binds (ps := ["script"]) fun _ _ _ _ _ _ us hl => match us, hl with | [_], _ => rfl
  refine ⟨PySem.W.fnOf "law" "law" (defArgs sLaw) (defBody sLaw) (defScope sLaw) .none kV14 dc14 pm14 an14 cd14 ct14, fun s v => .of_eq rfl, fun base kB _ => ?_⟩
  have c_next_table : Callee l.prog w K mg base 1 "next_table" ["row"] spTabX := ⟨f1, _, ok_tabX T F1, PySem.W.mg_of X G a1, k1, b1⟩
  have c_meetings : Callee l.prog w K mg base 1 "meetings" ["one", "other"] spMeet := ⟨f2, _, ok_meet T F2, PySem.W.mg_of X G a2, k2, b2⟩
  have c_onward : Callee l.prog w K mg base 2 "onward" ["one", "other"] spOnward := ⟨f3, _, ok_onward T c_next_table c_meetings F3, PySem.W.mg_of X G a3, k3, b3⟩
  have c_first_alone : Callee l.prog w K mg base 1 "first_alone" ["heads", "others"] spAlone := ⟨f4, _, ok_alone T F4, PySem.W.mg_of X G a4, k4, b4⟩
  have c_parts : Callee l.prog w K mg base 3 "parts" ["one", "other"] spParts := ⟨f5, _, ok_parts T c_next_table c_onward c_first_alone F5, PySem.W.mg_of X G a5, k5, b5⟩
  have c_law_draws : Callee l.prog w K mg base 1 "_law_draws" ["script"] (spDraws K) := ⟨f6, _, ok_draws T m_abs F6, PySem.W.mg_of X G a6, k6, b6⟩
  have c_law_take : Callee l.prog w K mg base 1 "_law_take" ["draws", "many"] spTake := ⟨f7, _, ok_take T F7, PySem.W.mg_of X G a7, k7, b7⟩
  have c_law_abc : Callee l.prog w K mg base 1 "_law_abc" ["k"] spAbc := ⟨f8, _, ok_abc T F8, PySem.W.mg_of X G a8, k8, b8⟩
  have c_law_signs : Callee l.prog w K mg base 2 "_law_signs" ["draws"] spSigns := ⟨f9, _, ok_signs T c_law_take c_law_abc F9, PySem.W.mg_of X G a9, k9, b9⟩
  have c_law_row : Callee l.prog w K mg base 2 "_law_row" ["draws", "signs", "most"] spRowC := ⟨f10, _, ok_rowC T c_law_take F10, PySem.W.mg_of X G a10, k10, b10⟩
  have c_law_other : Callee l.prog w K mg base 3 "_law_other" ["draws", "one", "signs", "most"] spOtherN := ⟨f11, _, ok_otherN T c_law_take c_law_abc c_law_row F11, PySem.W.mg_of X G a11, k11, b11⟩
  have c_law_size : Callee l.prog w K mg base 4 "_law_size" ["one", "other"] spSizePt := ⟨f12, _, ok_sizePt T c_parts F12, PySem.W.mg_of X G a12, k12, b12⟩
  have c_law_right : Callee l.prog w K mg base 5 "_law_right" ["draws", "one", "other"] spRightPt := ⟨f13, _, ok_rightPt T c_law_take c_law_abc c_parts c_law_size F13, PySem.W.mg_of X G a13, k13, b13⟩
  exact ok_law T c_law_draws c_law_signs c_law_row c_law_other c_law_right F14
theorem walk {l : PySem.W.OpenLaw} {q : Program} {loose : List Str} {XP : (Str → Option Value) → Heap → Prop} {YP : World → Heap → Prop} {d : DefRec} {K : Params → PySem.W.Frag} (hn : l.most = some 63) (hdf : d.params.defaults = [])
    (hY : ∀ (w : World) (h : Heap), YP w h → (K w.params).In h)
    (F : ∀ (w : World) (mg : Str → Option Value) (fa : Addr) (h : Heap), (K w.params).In h → h.Ns mainGlobals mg → mg d.name = some (.ref fa) →
      ∃ fd : FuncData, (∀ (s : Shared) (u : Value), BindsTo s fd ⟨[u], []⟩ [("script", u)]) ∧ ∀ base : Heap, (K w.params).In base → base.Ns mainGlobals mg → FnOk l.prog w (K w.params) mg base CX0 7 fa fd ["script"] (spLaw (K w.params))) :
    PySem.W.WalkO q loose XP YP l.row.toRowW d [] (fun f vs => PySem.call f vs) :=
  L2.walk_of (n := 63) (k := 7) (x := "script") (CX := fun _ => CX0) (sp := fun w => spLaw (K w.params)) hn (by decide) hdf ⟨rfl, by decide, by decide, rfl⟩ hY F (fun _ _ a ns hl hO hS => ⟨a, ns, rfl, hS, hl, hO, fun _ => rfl⟩) fun _ _ _ _ _ z => z
end Lv
open PySem PySem.W PyProof.Rows
set_option maxRecDepth 100000 in
set_option maxHeartbeats 0 in
theorem PySem.Challenge.cw_leavings_k37_whole_parts_otherwise_holds : PySem.Challenge.rw_leavings_k37_whole_parts_otherwise.Holds := by
  w_on; o_law; k_head; (case hw => w_witness2)
  k_fill
  refine Lv.walk (l := PySem.Challenge.rw_leavings_k37_whole_parts_otherwise) rfl rfl (fun w h Y => PySem.W.kIn_of Y) ?F
  case F =>
    intro w mg fa h KX G hmg
    refine' Lv.all_mk KX G hmg ?a1 ?l1 ?c1 ?k1 ?a2 ?l2 ?c2 ?k2 ?a3 ?l3 ?c3 ?k3 ?a4 ?l4 ?c4 ?k4 ?a5 ?l5 ?c5 ?k5 ?a6 ?l6 ?c6 ?k6 ?a7 ?l7 ?c7 ?k7 ?a8 ?l8 ?c8 ?k8 ?a9 ?l9 ?c9 ?k9 ?a10 ?l10 ?c10 ?k10 ?a11 ?l11 ?c11 ?k11 ?a12 ?l12 ?c12 ?k12 ?a13 ?l13 ?c13 ?k13 ?a14 ?l14 ?c14 ?k14 ?z_range ?z_len ?z_max ?z_min ?z_int ?z_bool ?z_str ?z_list ?z_tuple ?z_dict ?z_set ?z_sum ?z_sorted ?z_enumerate ?z_isinstance ?z_reversed ?z_repr ?z_all ?z_zip ?z_abs
    (case a1 => k_is); (case l1 => k_is); (case c1 => k_is); (case k1 => k_is); (case a2 => k_is); (case l2 => k_is)
    (case c2 => k_is); (case k2 => k_is); (case a3 => k_is); (case l3 => k_is); (case c3 => k_is); (case k3 => k_is)
    (case a4 => k_is); (case l4 => k_is); (case c4 => k_is); (case k4 => k_is); (case a5 => k_is); (case l5 => k_is)
    (case c5 => k_is); (case k5 => k_is); (case a6 => k_is); (case l6 => k_is); (case c6 => k_is); (case k6 => k_is)
    (case a7 => k_is); (case l7 => k_is); (case c7 => k_is); (case k7 => k_is); (case a8 => k_is); (case l8 => k_is)
    (case c8 => k_is); (case k8 => k_is); (case a9 => k_is); (case l9 => k_is); (case c9 => k_is); (case k9 => k_is)
    (case a10 => k_is); (case l10 => k_is); (case c10 => k_is); (case k10 => k_is); (case a11 => k_is); (case l11 => k_is)
    (case c11 => k_is); (case k11 => k_is); (case a12 => k_is); (case l12 => k_is); (case c12 => k_is); (case k12 => k_is)
    (case a13 => k_is); (case l13 => k_is); (case c13 => k_is); (case k13 => k_is); (case a14 => k_is); (case l14 => k_is)
    (case c14 => k_is); (case k14 => k_is); (case z_range => k_is); (case z_len => k_is); (case z_max => k_is); (case z_min => k_is)
    (case z_int => k_is); (case z_bool => k_is); (case z_str => k_is); (case z_list => k_is); (case z_tuple => k_is); (case z_dict => k_is)
    (case z_set => k_is); (case z_sum => k_is); (case z_sorted => k_is); (case z_enumerate => k_is); (case z_isinstance => k_is); (case z_reversed => k_is)
    (case z_repr => k_is); (case z_all => k_is); (case z_zip => k_is); (case z_abs => k_is)
#print axioms PySem.Challenge.cw_leavings_k37_whole_parts_otherwise_holds
