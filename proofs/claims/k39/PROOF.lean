import PyProof.Rows.All
import Wide.All
import OpenK.AllK
import Wide.FinOn
import PyProof.EqAt
import PyProof.EqKinds
import PyProof.TupleCall
import KE.BitLaws
import PySem.Challenge.RW_leavings_k39_papers_of_arches_judged
-- CHANGE: your row's module here, as the last of these rows
set_option Elab.async false
set_option linter.all false
set_option maxRecDepth 100000
namespace L2
open PySem PySem.Spec PyProof.Rows
/-- a key: an int or a str -/
abbrev Key := Sum Int Str
def keyIs : Key → Value → Bool
  | .inl k, v => Value.isInt k v
  | .inr x, v => Value.isStrOf x v
def keyH (w : World) : Key → Int
  | .inl k => hashInt k
  | .inr x => hashStr w x
theorem keyIs_shape : ∀ {k : Key} {v : Value}, keyIs k v = true → (∃ i t, k = Sum.inl i ∧ v = Value.int i t) ∨ (∃ x t, k = Sum.inr x ∧ v = Value.str x t)
  | .inl i, v, h => by
    obtain ⟨t, e⟩ := Value.isInt_shape (k := i) (v := v) h
    exact .inl ⟨i, t, rfl, e⟩
  | .inr x, v, h => by
    obtain ⟨t, e⟩ := Value.isStrOf_shape (x := x) (v := v) h
    exact .inr ⟨x, t, rfl, e⟩
theorem keyIs_int (i : Int) (t : Tok) : keyIs (.inl i) (.int i t) = true := by simp [keyIs, Value.isInt]
theorem keyIs_str (x : Str) (t : Tok) : keyIs (.inr x) (.str x t) = true := by simp [keyIs, Value.isStrOf]
theorem key_ll (a b : Int) : decide ((Sum.inl a : Key) = Sum.inl b) = (a == b) := by
  by_cases e : a = b
  · subst e; simp
  · have h : ¬ (Sum.inl a : Key) = Sum.inl b := fun q => e (Sum.inl.inj q)
    rw [decide_eq_false h]
    exact (beq_eq_false_iff_ne.mpr e).symm
theorem key_rr (a b : Str) : decide ((Sum.inr a : Key) = Sum.inr b) = decide (a = b) := by
  by_cases e : a = b
  · subst e; simp
  · have h : ¬ (Sum.inr a : Key) = Sum.inr b := fun q => e (Sum.inr.inj q)
    rw [decide_eq_false h, decide_eq_false e]
theorem key_lr (a : Int) (b : Str) : decide ((Sum.inl a : Key) = Sum.inr b) = false := decide_eq_false (fun q => nomatch q)
theorem key_rl (a : Str) (b : Int) : decide ((Sum.inr a : Key) = Sum.inl b) = false := decide_eq_false (fun q => nomatch q)
def mixKind (prog : Program) (w : World) : PySem.KeyKind prog w Key where
  is := keyIs
  hash := keyH w
  inj := fun v a b ha hb => by
    rcases keyIs_shape ha with ⟨i, t, rfl, rfl⟩ | ⟨x, t, rfl, rfl⟩
    · rcases keyIs_shape hb with ⟨j, u, rfl, e⟩ | ⟨y, u, rfl, e⟩
      · injection e with e1 _; rw [e1]
      · exact nomatch e
    · rcases keyIs_shape hb with ⟨j, u, rfl, e⟩ | ⟨y, u, rfl, e⟩
      · exact nomatch e
      · injection e with e1 _; rw [e1]
  byValue := fun k v h => by
    rcases keyIs_shape h with ⟨i, t, rfl, rfl⟩ | ⟨x, t, rfl, rfl⟩ <;> rfl
  pyHash := fun hv h => by
    rcases keyIs_shape hv with ⟨i, t, rfl, rfl⟩ | ⟨x, t, rfl, rfl⟩
    · exact wpAny_pyHash_int h
    · exact wpAny_pyHash_str h
  eqBool := fun hu hv h => by
    rcases keyIs_shape hu with ⟨i, t, rfl, rfl⟩ | ⟨x, t, rfl, rfl⟩
    · rcases keyIs_shape hv with ⟨j, u, rfl, rfl⟩ | ⟨y, u, rfl, rfl⟩
      · rw [key_ll] at h; exact wpAny_eqBool_int h
      · rw [key_lr] at h; exact SeqAt.EqAt.int_str i t y u _ _ _ _ h
    · rcases keyIs_shape hv with ⟨j, u, rfl, rfl⟩ | ⟨y, u, rfl, rfl⟩
      · rw [key_rl] at h; exact SeqAt.EqAt.str_int x t j u _ _ _ _ h
      · rw [key_rr] at h; exact wpAny_eqBool_str h
  «strs» := fun k x t v h => by
    rcases keyIs_shape h with ⟨i, u, rfl, e⟩ | ⟨y, u, rfl, e⟩
    · exact nomatch e
    · injection e with e1 _
      subst e1
      cases v <;> rfl
theorem mixKind_int (prog : Program) (w : World) (i : Int) (t : Tok) : (mixKind prog w).is (.inl i) (.int i t) = true := keyIs_int i t
theorem mixKind_str (prog : Program) (w : World) (x : Str) (t : Tok) : (mixKind prog w).is (.inr x) (.str x t) = true := keyIs_str x t
end L2
namespace L2
open PySem PySem.Spec PyProof.Rows
/-- a value, without the heap -/
inductive V where
  | non | bl (b : Bool) | int (i : Int) | str (x : Str) | byt (b : Array UInt8) | flt (b : UInt64) | ref (a : Addr) | ty (n : String)
  deriving DecidableEq
def RelV : V → Value → Prop
  | .non, u => u = Value.none
  | .bl b, u => u = Value.bool b
  | .int i, u => ∃ t, u = Value.int i t
  | .str x, u => ∃ t, u = Value.str x t
  | .byt b, u => ∃ t, u = Value.bytes b t
  | .flt b, u => ∃ t, u = Value.float b t
  | .ref a, u => u = Value.ref a
  | .ty n, u => u = Value.type n
abbrev Vals : List V → List Value → Prop := Paired RelV
theorem Vals.length {xs : List V} {us : List Value} (r : Vals xs us) : xs.length = us.length := Paired.length r
theorem Vals.get : ∀ {xs : List V} {us : List Value} {i : Nat} {x : V}, Vals xs us → xs[i]? = some x → ∃ u, us[i]? = some u ∧ RelV x u
  | _, _, _, _, .nil, e => by simp at e
  | _, _, 0, _, .cons r _, e => by simp at e; subst e; exact ⟨_, rfl, r⟩
  | _, _, i + 1, x, .cons _ t, e => by
    obtain ⟨u, h1, h2⟩ := Vals.get (i := i) (x := x) t (by simpa using e)
    exact ⟨u, by simpa using h1, h2⟩
theorem Vals.set {x : V} {u : Value} (r : RelV x u) : ∀ {xs : List V} {us : List Value} (i : Nat), Vals xs us → Vals (xs.set i x) (us.set i u)
  | _, _, _, .nil => .nil
  | _, _, 0, .cons _ t => .cons r t
  | _, _, i + 1, .cons q t => .cons q (Vals.set r i t)
theorem Vals.append : ∀ {xs ys : List V} {us ws : List Value}, Vals xs us → Vals ys ws → Vals (xs ++ ys) (us ++ ws)
  | _, _, _, _, .nil, s => s
  | _, _, _, _, .cons r t, s => .cons r (Vals.append t s)
theorem Vals.take : ∀ {xs : List V} {us : List Value} (n : Nat), Vals xs us → Vals (xs.take n) (us.take n)
  | _, _, 0, _ => .nil
  | _, _, _ + 1, .nil => .nil
  | _, _, n + 1, .cons r t => .cons r (Vals.take n t)
theorem Vals.drop : ∀ {xs : List V} {us : List Value} (n : Nat), Vals xs us → Vals (xs.drop n) (us.drop n)
  | _, _, 0, r => r
  | _, _, _ + 1, .nil => .nil
  | _, _, n + 1, .cons _ t => Vals.drop n t
def RelO : Option V → Option Value → Prop
  | some v, some u => RelV v u
  | none, none => True
  | _, _ => False
def KV {κ : Type} : List (κ × V) → List (κ × Value) → Prop := Paired fun (p : κ × V) (q : κ × Value) => p.1 = q.1 ∧ RelV p.2 q.2
/-- a key of a dict (00_mix): an int or a text -/
def kV : Key → V
  | .inl i => .int i
  | .inr x => .str x
/-- what stands at a tracked address -/
inductive HO where
  /-- a list -/
  | lst (xs : List V)
  /-- a tuple (never changes) -/
  | tup (xs : List V)
  /-- a dict whose keys are ints and texts; one whose keys are tuples of ints and texts (the empty one is both) -/
  | dK (kvs : List (Key × V)) | dT (kvs : List (List Key × V))
  /-- a set of ints: its members, its size -/
  | set (S : Int → Bool) (n : Nat)
  /-- an instance of the class at C, its dict at dx, its attributes -/
  | ins (C dx : Addr) (fs : List (Str × V))
  /-- the dict of the instance at x -/
  | own (x : Addr)
  /-- the dict of an exception -/
  | xd (fs : List (Str × V))
  /-- a bound method, f of x -/
  | met (f x : Addr)
  /-- a range object lo, lo + 1, .. below hi -/
  | rng (lo hi : Int)
  /-- a thing that is known to the object (the script; a dict while a loop walks it): read, never written while it is so -/
  | frz (o : Obj) (u : HO)
  /-- a code object's table -/
  | tbl (ps : Array Value)
  /-- any other thing, by what is true of its one object (a def of one's own: SetO a S n := HO.ext fun h => ..) -/
  | ext (φ : Heap → Prop)
abbrev Hp := Addr → Option HO
def upd (H : Hp) (a : Addr) (o : HO) : Hp := fun b => if b = a then some o else H b
theorem upd_same {H : Hp} {a : Addr} {o : HO} : upd H a o a = some o := by unfold upd; rw [if_pos rfl]
theorem upd_ne {H : Hp} {a b : Addr} {o : HO} (h : b ≠ a) : upd H a o b = H b := by unfold upd; rw [if_neg h]
/-- two objects of different content stand apart -/
theorem ne_of {H : Hp} {a b : Addr} {o u : HO} (h : H a = some o) (h' : H b = some u) (d : o ≠ u) : a ≠ b := by
  intro e; subst e; rw [h] at h'; exact d (Option.some.inj h')
theorem ne_of_none {H : Hp} {a b : Addr} {o : HO} (h : H a = some o) (h' : H b = none) : a ≠ b := by
  intro e; subst e; rw [h] at h'; cases h'
section
variable (P : Program) (w : World)
def ObjOk (H : Hp) (h : Heap) (a : Addr) : HO → Prop
  | .lst xs => xs.length ≤ sizeLine ∧ ∃ (its : List Value) (n : Nat), Vals xs its ∧ h.get? a = some { cls := .type "list", data := .seq its.toArray n }
  | .tup xs => xs.length ≤ sizeLine ∧ ∃ its : List Value, Vals xs its ∧ IsTup h a its.toArray
  | .dK kvs => kvs.length ≤ sizeLine ∧ (a == sysModules) = false ∧ ∃ vs, KV kvs vs ∧ h.DictOf (mixKind P w) a vs
  | .dT kvs => kvs.length ≤ sizeLine ∧ (a == sysModules) = false ∧ ∃ xs : List (List Key × Addr × Value),
      Paired (fun (p : List Key × V) (q : List Key × Addr × Value) => p.1 = q.1 ∧ H q.2.1 = some (.tup (p.1.map kV)) ∧ RelV p.2 q.2.2) kvs xs ∧
      ∃ o es ep, h.get? a = some o ∧ o.ExactDict ∧ o.data = .dict es ep ∧ es.toList = xs.map (entryOfKey (tupleKind (mixKind P w))) ∧ (xs.map (·.1)).Nodup
  | .set S n => h.SetOf (intKind P w) a S n
  | .ins C dx fs => H dx = some (.own a) ∧ fs.length ≤ 1000 ∧ dx ≠ a ∧ h.get? a = some (PySem.W.instObj C dx) ∧
      ∃ mA, h.Ns1 dx mA ∧ (∀ f, RelO (fs.lookup f) (mA f)) ∧ PySem.Within mA (fs.map (·.1))
  | .own _ => ∃ o, h.get? a = some o
  | .xd fs => ∃ mA, h.Ns1 a mA ∧ ∀ f, RelO (fs.lookup f) (mA f)
  | .rng lo hi => ∃ t u v, h.get? a = some { cls := .type "range", data := .fields #[.int lo t, .int hi u, .int 1 v] }
  | .frz o u => h.get? a = some o ∧ ObjOk H h a u
  | .tbl ps => h.get? a = some { cls := .none, data := .fields ps }
  | .met f x => h.get? a = some (PySem.W.methodObj (.ref f) (.ref x))
  | .ext φ => φ h ∧ (∃ o, h.get? a = some o) ∧ ∀ h1 h2 : Heap, φ h1 → (∀ o, h1.get? a = some o → h2.get? a = some o) → φ h2
/-- the abstract heap is held -/
def HOk (H : Hp) (h : Heap) : Prop := ∀ a o, H a = some o → ObjOk P w H h a o
end
section
variable {P : Program} {w : World} {H H' : Hp} {h h' : Heap} {a : Addr} {o : HO}
theorem ObjOk.lt (x : ObjOk P w H h a o) : a < h.objs.size := by
  cases o with
  | lst xs => obtain ⟨_, _, _, _, e⟩ := x; exact Heap.lt_size e
  | tup xs => obtain ⟨_, _, _, p⟩ := x; exact p.lt
  | dK kvs => obtain ⟨_, _, _, _, o, _, _, e, _⟩ := x; exact Heap.lt_size e
  | dT kvs => obtain ⟨_, _, _, _, o, _, _, e, _⟩ := x; exact Heap.lt_size e
  | set S n => obtain ⟨o, _, _, _, e, _⟩ := x; exact Heap.lt_size e
  | ins C dx fs => obtain ⟨_, _, _, e, _⟩ := x; exact Heap.lt_size e
  | own y => obtain ⟨_, e⟩ := x; exact Heap.lt_size e
  | xd fs => obtain ⟨_, ⟨_, _, _, e, _⟩, _⟩ := x; exact Heap.lt_size e
  | rng lo hi => obtain ⟨_, _, _, e⟩ := x; exact Heap.lt_size e
  | frz ob u => obtain ⟨e, _⟩ := x; exact Heap.lt_size e
  | tbl ps => exact Heap.lt_size (show h.get? a = some _ from x)
  | met f y => exact Heap.lt_size (show h.get? a = some _ from x)
  | ext φ => obtain ⟨_, ⟨_, e⟩, _⟩ := x; exact Heap.lt_size e
theorem Paired.mapP {α β : Type} {F G : α → β → Prop} : ∀ {l₁ : List α} {l₂ : List β}, Paired F l₁ l₂ → (∀ a b, F a b → G a b) → Paired G l₁ l₂
  | _, _, .nil, _ => .nil
  | _, _, .cons r t, f => .cons (f _ _ r) (Paired.mapP t f)
/-- what an object's description leans on: its own object, its own dict, the tuples -/
theorem ObjOk.stay (x : ObjOk P w H h a o) (k : ∀ b u, (b = a ∨ H b = some (.own a)) → h.get? b = some u → h'.get? b = some u)
    (ho : ∀ b, H b = some (.own a) → H' b = some (.own a)) (ht : ∀ b xs, H b = some (.tup xs) → H' b = some (.tup xs)) : ObjOk P w H' h' a o := by
  induction o with
  | lst xs => obtain ⟨z, its, n, r, e⟩ := x; exact ⟨z, its, n, r, k _ _ (.inl rfl) e⟩
  | tup xs => obtain ⟨z, its, r, ob, e, c⟩ := x; exact ⟨z, its, r, ob, k _ _ (.inl rfl) e, c⟩
  | dK kvs => obtain ⟨z, y, vs, r, ob, es, ep, e, c⟩ := x; exact ⟨z, y, vs, r, ob, es, ep, k _ _ (.inl rfl) e, c⟩
  | dT kvs =>
    obtain ⟨z, y, xs, r, ob, es, ep, e, c⟩ := x
    exact ⟨z, y, xs, Paired.mapP r fun p q z => ⟨z.1, ht _ _ z.2.1, z.2.2⟩, ob, es, ep, k _ _ (.inl rfl) e, c⟩
  | set S n => obtain ⟨ob, es, ep, t, e, c⟩ := x; exact ⟨ob, es, ep, t, k _ _ (.inl rfl) e, c⟩
  | ins C dx fs =>
    obtain ⟨d, z, ne, e, mA, ⟨od, es, ep, e2, c⟩, r⟩ := x
    exact ⟨ho _ d, z, ne, k _ _ (.inl rfl) e, mA, ⟨od, es, ep, k _ _ (.inr d) e2, c⟩, r⟩
  | own y => obtain ⟨ob, e⟩ := x; exact ⟨ob, k _ _ (.inl rfl) e⟩
  | xd fs => obtain ⟨mA, ⟨od, es, ep, e, c⟩, r⟩ := x; exact ⟨mA, ⟨od, es, ep, k _ _ (.inl rfl) e, c⟩, r⟩
  | rng lo hi => obtain ⟨t, u, v, e⟩ := x; exact ⟨t, u, v, k _ _ (.inl rfl) e⟩
  | frz ob u ih => obtain ⟨e, q⟩ := x; exact ⟨k _ _ (.inl rfl) e, ih q⟩
  | tbl ps =>
    have e : h.get? a = some { cls := .none, data := .fields ps } := x
    show h'.get? a = some { cls := .none, data := .fields ps }
    exact k a _ (.inl rfl) e
  | met f y =>
    have e : h.get? a = some (PySem.W.methodObj (.ref f) (.ref y)) := x
    show h'.get? a = some (PySem.W.methodObj (.ref f) (.ref y))
    exact k a _ (.inl rfl) e
  | ext φ => obtain ⟨p, ⟨o, e⟩, st⟩ := x; exact ⟨st _ _ p fun o q => k _ _ (.inl rfl) q, ⟨o, k _ _ (.inl rfl) e⟩, st⟩
theorem HOk.lt (x : HOk P w H h) (e : H a = some o) : a < h.objs.size := (x a o e).lt
theorem HOk.fresh (x : HOk P w H h) (e : h.objs.size ≤ a) : H a = none := by
  cases q : H a with
  | none => rfl
  | some u => exact absurd (Nat.lt_of_lt_of_le (x.lt q) e) (Nat.lt_irrefl _)
/-- every object of the heap is kept -/
theorem HOk.kept (x : HOk P w H h) (k : ∀ b u, h.get? b = some u → h'.get? b = some u) : HOk P w H h' := fun a o e =>
  (x a o e).stay (fun b u _ q => k b u q) (fun _ q => q) fun _ _ q => q
/-- a new object is laid and tracked -/
theorem HOk.laid (x : HOk P w H h) (k : ∀ b u, h.get? b = some u → h'.get? b = some u) (hp : h.objs.size ≤ a) (new : ObjOk P w (upd H a o) h' a o) : HOk P w (upd H a o) h' := fun b u e => by
  have hn := x.fresh hp
  by_cases hb : b = a
  · subst hb; rw [upd_same] at e; cases e; exact new
  · rw [upd_ne hb] at e
    exact (x b u e).stay (fun c v _ q => k c v q) (fun c q => by rw [upd_ne (ne_of_none q hn)]; exact q) fun c xs q => by rw [upd_ne (ne_of_none q hn)]; exact q
end
/-- what may be read as u: it is u, or a known u -/
def Rd (H : Hp) (a : Addr) (u : HO) : Prop := H a = some u ∨ ∃ o, H a = some (.frz o u)
theorem Rd.of {H : Hp} {a : Addr} {u : HO} (h : H a = some u) : Rd H a u := .inl h
theorem Rd.ok {P : Program} {w : World} {H : Hp} {h : Heap} {a : Addr} {u : HO} (r : Rd H a u) (x : HOk P w H h) : ObjOk P w H h a u := by
  rcases r with r | ⟨o, r⟩
  · exact x a u r
  · obtain ⟨_, q⟩ := x a _ r
    exact q
/-- what may be written -/
def Mut : Option HO → Prop
  | some (.lst _) => True
  | some (.dK _) => True
  | some (.dT _) => True
  | some (.set _ _) => True
  | some (.ins _ _ _) => True
  | some (.ext _) => True
  | _ => False
section
variable {P : Program} {w : World} {H : Hp} {h h' : Heap} {x e : Addr} {o' : HO}
/-- the object at e is changed: x itself, or the dict of the instance x -/
theorem HOk.write (ok : HOk P w H h) (mu : Mut (H x)) (he : e = x ∨ H e = some (.own x)) (k : ∀ b u, b ≠ e → h.get? b = some u → h'.get? b = some u) (heo : ∃ u, h'.get? e = some u)
    (new : ObjOk P w (upd H x o') h' x o') : HOk P w (upd H x o') h' := fun b u q => by
  have nown : ∀ c y, H c = some (.own y) → c ≠ x := fun c y r z => by subst z; rw [r] at mu; exact mu
  have ntup : ∀ c xs, H c = some (.tup xs) → c ≠ x := fun c xs r z => by subst z; rw [r] at mu; exact mu
  by_cases hb : b = x
  · subst hb; rw [upd_same] at q; cases q; exact new
  · rw [upd_ne hb] at q
    by_cases hbe : b = e
    · have q' : H b = some (.own x) := by
        rcases he with z | z
        · exact absurd (hbe.trans z) hb
        · rw [hbe]; exact z
      rw [q] at q'; cases q'
      obtain ⟨v, hv⟩ := heo
      exact ⟨v, by rw [hbe]; exact hv⟩
    · refine (ok b u q).stay (fun c v hc r => k c v ?_ r) (fun c r => by rw [upd_ne (nown c b r)]; exact r) fun c xs r => by rw [upd_ne (ntup c xs r)]; exact r
      rcases hc with rfl | hc
      · exact hbe
      · rintro rfl
        rcases he with z | z
        · exact nown c b hc z
        · rw [hc] at z; cases z; exact hb rfl
end
structure Un (fs ex : List Addr) (H H' : Hp) (h h' : Heap) : Prop where
  keep : ∀ b o, h.get? b = some o → H b = none → b ∉ fs → b ∉ ex → h'.get? b = some o
  slot : ∀ b o, h.get? b = some o → H b = none → b ∈ fs → b ∉ ex → ∃ sl, h'.get? b = some { o with slots := sl }
  free : ∀ b o, h.get? b = some o → H b = none → b ∉ ex → H' b = none
  there : ∀ b o, h.get? b = some o → b ∉ ex → ∃ o', h'.get? b = some o'
  tups : ∀ b xs, H b = some (.tup xs) → H' b = some (.tup xs)
  frzs : ∀ b o u, H b = some (.frz o u) → H' b = some (.frz o u)
  tbls : ∀ b ps, H b = some (.tbl ps) → ∃ more, H' b = some (.tbl (ps ++ more))
section
variable {fs fs' ex ex' : List Addr} {H H1 H2 : Hp} {h h1 h2 h' : Heap} {a x e : Addr} {o : HO}
theorem Un.any (u : Un fs ex H H1 h h1) {b : Addr} {ob : Obj} (q : h.get? b = some ob) (n : H b = none) (hx : b ∉ ex) : ∃ sl, h1.get? b = some { ob with slots := sl } := by
  by_cases hb : b ∈ fs
  · exact u.slot b ob q n hb hx
  · exact ⟨ob.slots, u.keep b ob q n hb hx⟩
theorem Un.trans (a : Un fs ex H H1 h h1) (b : Un fs ex H1 H2 h1 h2) : Un fs ex H H2 h h2 where
  keep := fun c ob q n hc hx => b.keep c ob (a.keep c ob q n hc hx) (a.free c ob q n hx) hc hx
  slot := fun c ob q n hc hx => by
    obtain ⟨sl, e1⟩ := a.slot c ob q n hc hx
    obtain ⟨sl', e2⟩ := b.slot c _ e1 (a.free c ob q n hx) hc hx
    exact ⟨sl', e2⟩
  free := fun c ob q n hx => by
    obtain ⟨o', e1⟩ := a.there c ob q hx
    exact b.free c o' e1 (a.free c ob q n hx) hx
  there := fun c ob q hx => by
    obtain ⟨o', e1⟩ := a.there c ob q hx
    exact b.there c o' e1 hx
  tups := fun c xs q => b.tups c xs (a.tups c xs q)
  frzs := fun c ob xs q => b.frzs c ob xs (a.frzs c ob xs q)
  tbls := fun c ps q => by
    obtain ⟨m1, e1⟩ := a.tbls c ps q
    obtain ⟨m2, e2⟩ := b.tbls c _ e1
    exact ⟨m1 ++ m2, by rw [e2, Array.append_assoc]⟩
theorem Un.kept (k : ∀ b u, h.get? b = some u → h'.get? b = some u) : Un fs ex H H h h' :=
  ⟨fun b ob q _ _ _ => k b ob q, fun b ob q _ _ _ => ⟨ob.slots, k b ob q⟩, fun _ _ _ n _ => n, fun b ob q _ => ⟨ob, k b ob q⟩, fun _ _ q => q, fun _ _ _ q => q, fun _ ps q => ⟨#[], by rw [q]; simp⟩⟩
theorem Un.refl : Un fs ex H H h h := Un.kept fun _ _ q => q
theorem Un.laid (k : ∀ b u, h.get? b = some u → h'.get? b = some u) (hp : h.objs.size ≤ a) (hn : H a = none) : Un fs ex H (upd H a o) h h' where
  keep := fun b u q _ _ _ => k b u q
  slot := fun b u q _ _ _ => ⟨u.slots, k b u q⟩
  free := fun b u q n _ => by rw [upd_ne (Nat.ne_of_lt (Nat.lt_of_lt_of_le (Heap.lt_size q) hp))]; exact n
  there := fun b u q _ => ⟨u, k b u q⟩
  tups := fun b xs q => by rw [upd_ne (ne_of_none q hn)]; exact q
  frzs := fun b u xs q => by rw [upd_ne (ne_of_none q hn)]; exact q
  tbls := fun b ps q => ⟨#[], by rw [upd_ne (ne_of_none q hn), q]; simp⟩
theorem Un.write (mu : Mut (H x)) (he : e = x ∨ H e = some (.own x)) (k : ∀ b u, b ≠ e → h.get? b = some u → h'.get? b = some u) (heo : ∃ u, h'.get? e = some u) : Un fs ex H (upd H x o) h h' := by
  have hx : ∀ b, H b = none → b ≠ x := fun b n z => by subst z; rw [n] at mu; exact mu
  have hb : ∀ b, H b = none → b ≠ e := fun b n z => by
    subst z
    rcases he with r | r
    · exact hx b n r
    · rw [n] at r; cases r
  have hm : ∀ b u, H b = some u → ¬ Mut (some u) → b ≠ x := fun b u q nm z => by subst z; rw [q] at mu; exact nm mu
  refine ⟨fun b u q n _ _ => k b u (hb b n) q, fun b u q n _ _ => ⟨u.slots, k b u (hb b n) q⟩, fun b u q n _ => by rw [upd_ne (hx b n)]; exact n, fun b u q _ => ?_,
    fun b xs q => by rw [upd_ne (hm b _ q fun z => z)]; exact q, fun b u xs q => by rw [upd_ne (hm b _ q fun z => z)]; exact q, fun b ps q => ⟨#[], by rw [upd_ne (hm b _ q fun z => z), q]; simp⟩⟩
  by_cases hbe : b = e
  · subst hbe; exact heo
  · exact ⟨u, k b u hbe q⟩
theorem Un.mono (u : Un fs ex H H1 h h1) (hs : ∀ b ∈ fs, b ∈ fs') (hx : ∀ b ∈ ex, b ∈ ex') : Un fs' ex' H H1 h h1 :=
  ⟨fun b ob q n hb he => u.keep b ob q n (fun z => hb (hs b z)) fun z => he (hx b z), fun _ _ q n _ he => u.any q n fun z => he (hx _ z), fun b ob q n he => u.free b ob q n fun z => he (hx b z), fun b ob q he => u.there b ob q fun z => he (hx b z), u.tups, u.frzs, u.tbls⟩
end
def trk (h : Heap) (H : Hp) : List Addr := (List.range h.objs.size).filter fun a => (H a).isSome
def hidT (h : Heap) (H : Hp) : Heap := PySem.W.hideAll h (trk h H)
theorem hidT_size (h : Heap) (H : Hp) : (hidT h H).objs.size = h.objs.size := PySem.W.hideAll_size _ _
theorem hidT_get {h : Heap} {H : Hp} {b : Addr} {o : Obj} (e : h.get? b = some o) (n : H b = none) : (hidT h H).get? b = some o :=
  PySem.W.hideAll_get _ e fun hm => by
    have q : (H b).isSome = true := (List.mem_filter.mp hm).2
    rw [n] at q; simp at q
theorem of_hidT {h : Heap} {H : Hp} {b : Addr} {o : Obj} (e : (hidT h H).get? b = some o) : h.get? b = some o ∧ H b = none := by
  have e' : h.get? b = some o := PySem.W.of_hideAll (trk h H) e
  refine ⟨e', ?_⟩
  cases q : H b with
  | none => rfl
  | some x =>
    have hm : b ∈ trk h H := List.mem_filter.mpr ⟨List.mem_range.mpr (Heap.lt_size e'), by simp [q]⟩
    have z : (hidT h H).get? b = none := PySem.W.hideAll_none (trk h H) hm
    rw [z] at e; cases e
def allNews (g h : Heap) (L : Addr) : List (Addr × Obj) := (List.range h.objs.size).filterMap fun a => if a = L ∨ (g.get? a).isSome = true then none else (h.get? a).map fun o => (a, o)
def rest (g h : Heap) (L d : Addr) : List (Addr × Obj) := (allNews g h L).filter fun p => decide (p.1 ≠ d)
end L2
namespace L2
open PySem PySem.Spec PyProof.Rows
/-- the module's facts, over the base: the heap at the law's entry without what is tracked there -/
structure Mod (K : PySem.W.Frag) (mg : Str → Option Value) (base : Heap) : Prop where
  kin : K.In base
  glob : base.Ns mainGlobals mg
  blt : ∃ mb, base.Ns builtinsNs mb ∧ ∀ x : Str, x ≠ "__name__" → mb x = bootBuiltins x
  nolimit : base.NoLimit
/-- the context: a def's body (or a comprehension's block) running. base: fixed through the whole law; s₀, H₀: the entry; outer: the frames whose slots others may change (a def's callers); stack: all frames that run;
   ex: iterators that were made ahead of the entry and are walked here (a comprehension's); fn: the names whose cells were made at the entry (a def: all; a comprehension's block: its own); calm: not within an except suite; pn: pins that every state bears; xe: what is wanted of an exception that leaves the code -/
structure Cx where
  prog : Program
  w : World
  K : PySem.W.Frag
  mg : Str → Option Value
  base : Heap
  A : Around
  N : List Str
  s_0 : Shared
  H_0 : Hp
  env : Env
  outer : List Env
  stack : List Env
  ex : List Addr
  fn : Str → Bool
  calm : Bool
  pn : List (Addr × Obj)
  xe : Value → Shared → Prop
/-- the callers' frames -/
def frs (l : List Env) : List Addr := l.filterMap (·.frame)
abbrev Cx.fs (X : Cx) : List Addr := frs X.outer
def Vis (sc : Scope) (x : Str) : Prop := sc.names.lookup x = some .local ∨ sc.names.lookup x = some .cell ∨ sc.names.lookup x = some .free
def Loc (sc : Scope) (x : Str) : Prop := sc.names.lookup x = some .local ∨ sc.names.lookup x = some .cell
def Look (env : Env) (h : Heap) (m : Str → Option Value) (x : Str) (u : Value) : Prop :=
  (env.kindOf x = some .local ∧ m x = some u) ∨ ((env.kindOf x = some .cell ∨ env.kindOf x = some .free) ∧ ∃ c, env.cells.lookup x = some c ∧ h.IsCell c (some u))
structure Cx.Ok (X : Cx) : Prop where
  mod : Mod X.K X.mg X.base
  kind : X.env.scope.kind = .function
  glob : X.env.globals = mainGlobals
  blt : X.env.builtins = builtinsNs
  above : X.s_0.heap.objs.size ≤ X.env.locals
  inj : ∀ x y c, X.env.cells.lookup x = some c → X.env.cells.lookup y = some c → x = y
  has : ∀ x, (X.env.kindOf x = some .cell ∨ X.env.kindOf x = some .free) → ∃ c, X.env.cells.lookup x = some c
  cab : ∀ x c, X.fn x = true → X.env.cells.lookup x = some c → X.s_0.heap.objs.size ≤ c
  hd : X.calm = true → X.A.handled = none
  frames : X.A.frames = some X.stack
  stk : X.stack = X.outer ∨ (X.stack = X.env :: X.outer ∧ X.env.frame = some X.env.locals)
  exf : ∀ b ∈ X.ex, b ≠ X.env.locals ∧ ∀ x c, X.env.cells.lookup x = some c → c ≠ b
  bs : ∀ b o, X.base.get? b = some o → X.s_0.heap.get? b = some o ∧ X.H_0 b = none
  bsz : X.base.objs.size ≤ X.s_0.heap.objs.size
  noex : ∀ b o, X.base.get? b = some o → b ∉ X.ex
  exfs : ∀ b ∈ X.ex, b ∉ X.fs
  funs : X.s_0.heap.FunFrames X.base X.outer
  frf : ∀ b ∈ X.fs, X.H_0 b = none
structure Inv (X : Cx) (pins : List (Addr × Obj)) (σ : List (Option V)) (H : Hp) (s : Shared) : Prop where
  ok : X.Ok
  os : s.os = X.s_0.os
  bare : AllBare s.gens
  base : Un X.fs X.ex X.H_0 H X.s_0.heap s.heap
  loc : ∃ m, s.heap.Ns X.env.locals m ∧ ∀ (i : Nat) (x : Str) (v : V), X.N[i]? = some x → σ[i]? = some (some v) → Vis X.env.scope x → ∃ u, RelV v u ∧ Look X.env s.heap m x u
  cell : ∀ x c, X.env.cells.lookup x = some c → ∃ v, s.heap.IsCell c v
  free : H X.env.locals = none
  freeC : ∀ x c, X.env.cells.lookup x = some c → H c = none
  pin : ∀ p ∈ X.pn ++ pins, s.heap.get? p.1 = some p.2 ∧ H p.1 = none ∧ p.1 ≠ X.env.locals ∧ p.1 ∉ X.fs ∧ ∀ v, p.2.data ≠ .cell v
  hok : HOk X.prog X.w H s.heap
  len : σ.length = X.N.length
section
variable {X : Cx} {pins : List (Addr × Obj)} {σ : List (Option V)} {H H' : Hp} {s : Shared} {h' : Heap}
theorem Cx.Ok.nofr (ok : X.Ok) {b : Addr} {o : Obj} (e : X.base.get? b = some o) : b ∉ X.fs := fun hb => by
  have := (ok.funs.mem hb).1
  rw [e] at this; cases this
theorem Inv.bs (I : Inv X pins σ H s) : ∀ b o, X.base.get? b = some o → s.heap.get? b = some o ∧ H b = none := fun b o e =>
  ⟨I.base.keep b o (I.ok.bs b o e).1 (I.ok.bs b o e).2 (I.ok.nofr e) (I.ok.noex b o e), I.base.free b o (I.ok.bs b o e).1 (I.ok.bs b o e).2 (I.ok.noex b o e)⟩
theorem Inv.bk (I : Inv X pins σ H s) : ∀ b o, X.base.get? b = some o → s.heap.get? b = some o := fun b o e => (I.bs b o e).1
theorem Inv.mod (I : Inv X pins σ H s) : Mod X.K X.mg X.base := I.ok.mod
theorem Inv.kIn (I : Inv X pins σ H s) : X.K.In s.heap := I.ok.mod.kin.keeps I.bk
theorem Inv.nolimit (I : Inv X pins σ H s) : s.heap.NoLimit := I.ok.mod.nolimit.keeps I.bk
/-- the frame over the base: for OpenK's rules (K.In X.base is I.mod.kin) -/
theorem Inv.fr (I : Inv X pins σ H s) : ∃ m, Fr X.base X.env.locals s.heap m :=
  let ⟨m, hn, _⟩ := I.loc
  ⟨m, hn, I.bk, Nat.le_trans I.ok.bsz I.ok.above⟩
theorem Inv.lt (I : Inv X pins σ H s) : X.env.locals < s.heap.objs.size := let ⟨_, hn, _⟩ := I.loc; hn.lt
theorem Inv.sz (I : Inv X pins σ H s) : X.s_0.heap.objs.size ≤ s.heap.objs.size := Nat.le_trans I.ok.above (Nat.le_of_lt I.lt)
theorem Inv.nofs (I : Inv X pins σ H s) {a : Addr} (h : s.heap.objs.size ≤ a) : a ∉ X.fs := fun hb => by
  obtain ⟨_, o, ho, _⟩ := I.ok.funs.mem hb
  exact absurd (Nat.lt_of_lt_of_le (Heap.lt_size ho) (Nat.le_trans I.sz h)) (Nat.lt_irrefl _)
theorem Inv.cne (I : Inv X pins σ H s) : ∀ x c, X.env.cells.lookup x = some c → c ≠ X.env.locals := fun x c e z => by
  obtain ⟨v, o, ho, hd⟩ := I.cell x c e
  obtain ⟨m, ⟨o', es, ep, ho', hd', _⟩, _⟩ := I.loc
  rw [z, ho'] at ho; cases ho; rw [hd'] at hd; cases hd
theorem Inv.funs (I : Inv X pins σ H s) : s.heap.FunFrames X.base X.outer := by
  have all : ∀ (l : List Env), (∀ b ∈ frs l, b ∈ X.fs) → X.s_0.heap.FunFrames X.base l → s.heap.FunFrames X.base l := by
    intro l
    induction l with
    | nil => intro _ _; trivial
    | cons env r ih =>
      intro hs hl
      obtain ⟨hk, ⟨L, o, hf, hn, ho, hd⟩, hr⟩ := hl
      have hL : L ∈ X.fs := hs L (by unfold frs; rw [List.filterMap_cons, hf]; exact List.mem_cons_self)
      obtain ⟨sl, e⟩ := I.base.slot L o ho (I.ok.frf L hL) hL fun z => I.ok.exfs L z hL
      exact ⟨hk, ⟨L, _, hf, hn, e, hd⟩, ih (fun b hb => hs b (by unfold frs; rw [List.filterMap_cons, hf]; exact List.mem_cons_of_mem _ hb)) hr⟩
  exact all X.outer (fun _ hb => hb) I.ok.funs
/-- the frames that run, for a call -/
theorem Inv.stack (I : Inv X pins σ H s) : s.heap.FunFrames X.base X.stack := by
  rcases I.ok.stk with e | ⟨e, hf⟩
  · rw [e]; exact I.funs
  · rw [e]
    obtain ⟨m, hn, _⟩ := I.loc
    refine .cons (by rw [I.ok.kind]; decide) hf hn ?_ I.funs
    exact Heap.get?_none_of_le (Nat.le_trans I.ok.bsz I.ok.above)
theorem Inv.stkSub (I : Inv X pins σ H s) : ∀ b ∈ frs X.stack, b ∈ X.env.locals :: X.fs := fun b hb => by
  rcases I.ok.stk with e | ⟨e, hf⟩
  · rw [e] at hb; exact List.mem_cons_of_mem _ hb
  · rw [e] at hb
    unfold frs at hb
    rw [List.filterMap_cons, hf] at hb
    exact hb
theorem Inv.stkFree (I : Inv X pins σ H s) : ∀ b ∈ frs X.stack, H b = none := fun b hb => by
  rcases List.mem_cons.mp (I.stkSub b hb) with e | hb
  · rw [e]; exact I.free
  · obtain ⟨_, o, ho, _⟩ := I.ok.funs.mem hb
    exact I.base.free b o ho (I.ok.frf b hb) fun z => I.ok.exfs b z hb
/-- THE STEP: the untracked objects but the frame and the records at ch are kept (the callers' frames up to slots), the frame's map is kept, the new abstract heap is held -/
theorem Inv.step {g' : Array GenState} {t' : Nat} {d' : Drawn} {ch : List Addr} (I : Inv X pins σ H s)
    (hch : ∀ b ∈ ch, (b ∈ X.ex ∨ X.s_0.heap.objs.size ≤ b) ∧ b ≠ X.env.locals ∧ (∀ x c, X.env.cells.lookup x = some c → c ≠ b) ∧ ∀ p ∈ X.pn ++ pins, p.1 ≠ b)
    (keep : ∀ b o, b ≠ X.env.locals → b ∉ X.fs → b ∉ ch → s.heap.get? b = some o → H b = none → h'.get? b = some o)
    (slot : ∀ b o, b ≠ X.env.locals → b ∈ X.fs → b ∉ ch → s.heap.get? b = some o → H b = none → ∃ sl, h'.get? b = some { o with slots := sl }) (free : ∀ b o, b ∉ ch → s.heap.get? b = some o → H b = none → H' b = none)
    (there : ∀ b o, b ∉ ch → s.heap.get? b = some o → ∃ o', h'.get? b = some o')
    (tups : ∀ b xs, H b = some (.tup xs) → H' b = some (.tup xs)) (frzs : ∀ b o u, H b = some (.frz o u) → H' b = some (.frz o u)) (tbls : ∀ b ps, H b = some (.tbl ps) → ∃ more, H' b = some (.tbl (ps ++ more)))
    (ns : ∀ m, s.heap.Ns X.env.locals m → h'.Ns X.env.locals m) (hok : HOk X.prog X.w H' h') (hg : AllBare g') :
    Inv X pins σ H' { s with heap := h', gens := g', drawn := d', toks := t' } := by
  have neL : ∀ b o, X.s_0.heap.get? b = some o → b ≠ X.env.locals := fun b o e => Nat.ne_of_lt (Nat.lt_of_lt_of_le (Heap.lt_size e) I.ok.above)
  have neC : ∀ b o, X.s_0.heap.get? b = some o → b ∉ X.ex → b ∉ ch := fun b o e hx hb => by
    rcases (hch b hb).1 with z | z
    · exact hx z
    · exact absurd (Nat.lt_of_lt_of_le (Heap.lt_size e) z) (Nat.lt_irrefl _)
  have cellK : ∀ x c, X.env.cells.lookup x = some c → ∀ v, s.heap.IsCell c v → h'.IsCell c v := fun x c e v ⟨o, ho, hd⟩ => by
    have nch : c ∉ ch := fun z => (hch c z).2.2.1 x c e rfl
    by_cases hc : c ∈ X.fs
    · obtain ⟨sl, q⟩ := slot c o (I.cne x c e) hc nch ho (I.freeC x c e)
      exact ⟨_, q, hd⟩
    · exact ⟨o, keep c o (I.cne x c e) hc nch ho (I.freeC x c e), hd⟩
  refine ⟨I.ok, I.os, hg, ⟨fun b o e n hb hx => ?_, fun b o e n hb hx => ?_, fun b o e n hx => ?_, fun b o e hx => ?_, fun b xs e => tups b xs (I.base.tups b xs e), fun b o xs e => frzs b o xs (I.base.frzs b o xs e), fun b ps e => ?_⟩, ?_, fun x c e => ?_, ?_, fun x c e => ?_, fun p hp => ?_, hok, I.len⟩
  · exact keep b o (neL b o e) hb (neC b o e hx) (I.base.keep b o e n hb hx) (I.base.free b o e n hx)
  · obtain ⟨sl, e1⟩ := I.base.slot b o e n hb hx
    obtain ⟨sl', e2⟩ := slot b _ (neL b o e) hb (neC b o e hx) e1 (I.base.free b o e n hx)
    exact ⟨sl', e2⟩
  · obtain ⟨o', e1⟩ := I.base.there b o e hx
    exact free b o' (neC b o e hx) e1 (I.base.free b o e n hx)
  · obtain ⟨o', e1⟩ := I.base.there b o e hx
    exact there b o' (neC b o e hx) e1
  · obtain ⟨m1, e1⟩ := I.base.tbls b ps e
    obtain ⟨m2, e2⟩ := tbls b _ e1
    exact ⟨m1 ++ m2, by rw [e2, Array.append_assoc]⟩
  · obtain ⟨m, hn, hl⟩ := I.loc
    refine ⟨m, ns m hn, fun i x v e1 e2 e3 => ?_⟩
    obtain ⟨u, r, l⟩ := hl i x v e1 e2 e3
    refine ⟨u, r, ?_⟩
    rcases l with l | ⟨k, c, e, z⟩
    · exact .inl l
    · exact .inr ⟨k, c, e, cellK x c e _ z⟩
  · obtain ⟨v, z⟩ := I.cell x c e
    exact ⟨v, cellK x c e v z⟩
  · obtain ⟨m, ⟨o, _, _, ho, _⟩, _⟩ := I.loc
    exact free _ o (fun z => (hch _ z).2.1 rfl) ho I.free
  · obtain ⟨v, o, ho, hd⟩ := I.cell x c e
    exact free c o (fun z => (hch c z).2.2.1 x c e rfl) ho (I.freeC x c e)
  · obtain ⟨e, n, ne, nf, d⟩ := I.pin p hp
    have nch : p.1 ∉ ch := fun z => (hch p.1 z).2.2.2 p hp rfl
    exact ⟨keep p.1 p.2 ne nf nch e n, free p.1 p.2 nch e n, ne, nf, d⟩
/-- .. where the frame's own object is kept too -/
theorem Inv.un {t' : Nat} (I : Inv X pins σ H s) (u : Un X.fs [] H H' s.heap h') (hok : HOk X.prog X.w H' h') : Inv X pins σ H' { s with heap := h', toks := t' } := by
  obtain ⟨m, ⟨o, es, ep, ho, r⟩, _⟩ := id I.loc
  obtain ⟨sl, hL⟩ := u.any ho I.free (by simp)
  exact I.step (g' := s.gens) (d' := s.drawn) (ch := []) (fun _ z => nomatch z) (fun b o _ hb _ e n => u.keep b o e n hb (by simp)) (fun b o _ hb _ e n => u.slot b o e n hb (by simp)) (fun b o _ e n => u.free b o e n (by simp)) (fun b o _ e => u.there b o e (by simp)) u.tups u.frzs u.tbls (fun m' hm => by
    obtain ⟨o', es', ep', ho', r'⟩ := hm
    rw [ho] at ho'; cases ho'
    exact ⟨_, es', ep', hL, r'⟩) hok I.bare
/-- behind a call (or a comprehension's block): the slots of this frame may have changed too, the records at ch may have turned -/
theorem Inv.call {g' : Array GenState} {t' : Nat} {d' : Drawn} {ch : List Addr} (I : Inv X pins σ H s) (u : Un (frs X.stack) ch H H' s.heap h') (hok : HOk X.prog X.w H' h') (hg : AllBare g')
    (hch : ∀ b ∈ ch, (b ∈ X.ex ∨ X.s_0.heap.objs.size ≤ b) ∧ b ≠ X.env.locals ∧ (∀ x c, X.env.cells.lookup x = some c → c ≠ b) ∧ ∀ p ∈ X.pn ++ pins, p.1 ≠ b) :
    Inv X pins σ H' { s with heap := h', gens := g', drawn := d', toks := t' } := by
  obtain ⟨m, ⟨o, es, ep, ho, r⟩, _⟩ := id I.loc
  obtain ⟨sl, hL⟩ := u.any ho I.free fun z => (hch _ z).2.1 rfl
  exact I.step (ch := ch) hch (fun b o hL hb hc e n => u.keep b o e n (fun z => (List.mem_cons.mp (I.stkSub b z)).elim hL hb) hc) (fun b o _ _ hc e n => u.any e n hc) (fun b o hc e n => u.free b o e n hc) (fun b o hc e => u.there b o e hc) u.tups u.frzs u.tbls (fun m' hm => by
    obtain ⟨o', es', ep', ho', r'⟩ := hm
    rw [ho] at ho'; cases ho'
    exact ⟨_, es', ep', hL, r'⟩) hok hg
/-- an untracked record of ours (an iterator) has turned -/
theorem Inv.turned {t' : Nat} {it : Addr} (I : Inv X pins σ H s) (k : ∀ b o, b ≠ it → s.heap.get? b = some o → h'.get? b = some o) (hn : H it = none) (hL : it ≠ X.env.locals)
    (h1 : it ∈ X.ex ∨ X.s_0.heap.objs.size ≤ it) (h2 : ∀ x c, X.env.cells.lookup x = some c → c ≠ it) (h3 : ∀ p ∈ X.pn ++ pins, p.1 ≠ it) : Inv X pins σ H { s with heap := h', toks := t' } := by
  have nit : ∀ b u, H b = some u → b ≠ it := fun b u e z => by rw [z, hn] at e; cases e
  refine I.step (g' := s.gens) (d' := s.drawn) (ch := [it]) (fun b hb => ?_) (fun b o _ _ hc e _ => k b o (fun z => hc (by simp [z])) e) (fun b o _ _ hc e _ => ⟨o.slots, k b o (fun z => hc (by simp [z])) e⟩) (fun _ _ _ _ n => n)
    (fun b o hc e => ⟨o, k b o (fun z => hc (by simp [z])) e⟩) (fun _ _ e => e) (fun _ _ _ e => e) (fun b ps e => ⟨#[], by rw [e]; simp⟩) (fun m hm => ?_) (fun b u e => ?_) I.bare
  · have e : b = it := by simpa using hb
    subst e
    exact ⟨h1, hL, h2, h3⟩
  · obtain ⟨o, es, ep, ho, r⟩ := hm
    exact ⟨o, es, ep, k _ o (Ne.symm hL) ho, r⟩
  · refine (I.hok b u e).stay (fun c v hc q => k c v ?_ q) (fun _ q => q) fun _ _ q => q
    rcases hc with z | z
    · rw [z]; exact nit b u e
    · exact nit c _ z
theorem Inv.tok (I : Inv X pins σ H s) (t : Nat) : Inv X pins σ H { s with toks := t } := I.un (h' := s.heap) (t' := t) Un.refl I.hok
/-- all objects kept -/
theorem Inv.kept {t' : Nat} (I : Inv X pins σ H s) (k : ∀ b u, s.heap.get? b = some u → h'.get? b = some u) : Inv X pins σ H { s with heap := h', toks := t' } := I.un (Un.kept k) (I.hok.kept k)
/-- a new object laid and tracked -/
theorem Inv.laid {a : Addr} {o : HO} {t' : Nat} (I : Inv X pins σ H s) (k : ∀ b u, s.heap.get? b = some u → h'.get? b = some u) (hp : s.heap.objs.size ≤ a) (new : ObjOk X.prog X.w (upd H a o) h' a o) :
    Inv X pins σ (upd H a o) { s with heap := h', toks := t' } := I.un (Un.laid k hp (I.hok.fresh hp)) (I.hok.laid k hp new)
/-- an object written -/
theorem Inv.write {x e : Addr} {o : HO} {t' : Nat} (I : Inv X pins σ H s) (mu : Mut (H x)) (he : e = x ∨ H e = some (.own x)) (k : ∀ b u, b ≠ e → s.heap.get? b = some u → h'.get? b = some u) (heo : ∃ u, h'.get? e = some u)
    (new : ObjOk X.prog X.w (upd H x o) h' x o) : Inv X pins σ (upd H x o) { s with heap := h', toks := t' } := I.un (Un.write mu he k heo) (I.hok.write mu he k heo new)
/-- forgetting slots, pins -/
theorem Inv.weak {σ' : List (Option V)} (I : Inv X pins σ H s) (hl : σ'.length = σ.length) (w : ∀ (i : Nat) v, σ'[i]? = some (some v) → σ[i]? = some (some v)) : Inv X pins σ' H s :=
  ⟨I.ok, I.os, I.bare, I.base, let ⟨m, hn, hl'⟩ := I.loc; ⟨m, hn, fun i x v e1 e2 e3 => hl' i x v e1 (w i v e2) e3⟩, I.cell, I.free, I.freeC, I.pin, I.hok, hl.trans I.len⟩
theorem Inv.pins_of {pins' : List (Addr × Obj)} (I : Inv X pins σ H s) (h : ∀ p ∈ pins', s.heap.get? p.1 = some p.2 ∧ H p.1 = none ∧ p.1 ≠ X.env.locals ∧ p.1 ∉ X.fs ∧ ∀ v, p.2.data ≠ .cell v) : Inv X pins' σ H s :=
  ⟨I.ok, I.os, I.bare, I.base, I.loc, I.cell, I.free, I.freeC, fun p hp => (List.mem_append.mp hp).elim (fun z => I.pin p (List.mem_append_left _ z)) (h p), I.hok, I.len⟩
theorem nodup_ix {N : List Str} (hN : N.Nodup) {i j : Nat} {x : Str} (a : N[i]? = some x) (b : N[j]? = some x) : i = j := by
  obtain ⟨h1, e1⟩ := List.getElem?_eq_some_iff.mp a
  obtain ⟨h2, e2⟩ := List.getElem?_eq_some_iff.mp b
  exact (List.getElem_inj hN).mp (e1.trans e2.symm)
/-- a name is stored; what changed -/
theorem store_ok2 {M : Model} {A : Around} {E : Value → Shared → Prop} {i : Nat} {x : Str} {v : V} {u : Value} {Q : Unit → Shared → Prop} (I : Inv X pins σ H s) (hN : X.N.Nodup) (hi : X.N[i]? = some x) (hx : Loc X.env.scope x) (r : RelV v u)
    (h : ∀ s', Inv X pins (σ.set i (some v)) H s' → (∃ a, Heap.SameBut a s.heap s'.heap ∧ (a = X.env.locals ∨ X.env.cells.lookup x = some a)) → Q () s') (hf : X.fn x = true ∨ X.env.scope.names.lookup x = some .local := by first | exact .inl rfl | exact .inr rfl | assumption) : wpAny M A (storeName X.env x u) Q E s := by
  obtain ⟨m, hn, hl⟩ := id I.loc
  have hcls : (X.env.scope.kind == .class || (X.env.scope.kind == .module && X.env.locals != X.env.globals)) = false := by rw [I.ok.kind]; rfl
  have hiσ : i < σ.length := by rw [I.len]; exact (List.getElem?_eq_some_iff.mp hi).1
  have cne := I.cne
  have tracked : ∀ {a : Addr} {h' : Heap}, (∃ o, s.heap.get? a = some o ∧ H a = none) → Heap.SameBut a s.heap h' → HOk X.prog X.w H h' := fun {a h'} ha hs b ob e => by
    obtain ⟨_, _, hfree⟩ := ha
    refine (I.hok b ob e).stay (fun c w' hc q => (hs.2 c ?_).trans q) (fun _ q => q) fun _ _ q => q
    rintro rfl
    rcases hc with rfl | hc
    · rw [hfree] at e; cases e
    · rw [hfree] at hc; cases hc
  rcases hx with hk | hk
  · refine wpAny_storeName_local hk hn (fun h' hn' hs => ?_) hcls
    obtain ⟨oL, _, _, hoL, _⟩ := id hn
    refine h _ ⟨I.ok, I.os, I.bare, ⟨fun b o e n hb hx => ?_, fun b o e n hb hx => ?_, I.base.free, fun b o e hx => ?_, I.base.tups, I.base.frzs, I.base.tbls⟩, ⟨_, hn', fun j y v' e1 e2 e3 => ?_⟩, fun y c e => ?_, I.free, I.freeC, fun p hp => ?_, tracked ⟨oL, hoL, I.free⟩ hs, by simpa using I.len⟩ ⟨_, hs, .inl rfl⟩
    · exact (hs.2 b (Nat.ne_of_lt (Nat.lt_of_lt_of_le (Heap.lt_size e) I.ok.above))).trans (I.base.keep b o e n hb hx)
    · obtain ⟨sl, e1⟩ := I.base.slot b o e n hb hx
      exact ⟨sl, (hs.2 b (Nat.ne_of_lt (Nat.lt_of_lt_of_le (Heap.lt_size e) I.ok.above))).trans e1⟩
    · obtain ⟨o', e1⟩ := I.base.there b o e hx
      exact ⟨o', (hs.2 b (Nat.ne_of_lt (Nat.lt_of_lt_of_le (Heap.lt_size e) I.ok.above))).trans e1⟩
    · by_cases hj : j = i
      · subst hj
        rw [hi] at e1; cases e1
        rw [List.getElem?_set_self hiσ] at e2
        cases e2
        exact ⟨u, r, .inl ⟨hk, by simp⟩⟩
      · rw [List.getElem?_set_ne (Ne.symm hj)] at e2
        obtain ⟨u', r', q⟩ := hl j y v' e1 e2 e3
        refine ⟨u', r', ?_⟩
        rcases q with ⟨k, e⟩ | ⟨k, c, e, z⟩
        · refine .inl ⟨k, ?_⟩
          have : y ≠ x := fun e => hj (nodup_ix hN e1 (e ▸ hi))
          simp [this, e]
        · exact .inr ⟨k, c, e, z.sameBut hs (cne y c e)⟩
    · obtain ⟨w', z⟩ := I.cell y c e
      exact ⟨w', z.sameBut hs (cne y c e)⟩
    · obtain ⟨e, n, ne, nf, d⟩ := I.pin p hp
      exact ⟨(hs.2 p.1 ne).trans e, n, ne, nf, d⟩
  · have hfn : X.fn x = true := by
      rcases hf with z | z
      · exact z
      · rw [z] at hk; cases hk
    obtain ⟨c, hc⟩ := I.ok.has x (.inl hk)
    obtain ⟨w', z⟩ := I.cell x c hc
    refine wpAny_storeName_cell I.ok.kind hk hc z (fun h' hc' hs => ?_)
    obtain ⟨oc, hoc, hocd⟩ := id z
    refine h { s with heap := h' } ⟨I.ok, I.os, I.bare, ⟨fun b o e n hb hx => ?_, fun b o e n hb hx => ?_, I.base.free, fun b o e hx => ?_, I.base.tups, I.base.frzs, I.base.tbls⟩, ⟨m, hn.sameBut hs (Ne.symm (cne x c hc)), fun j y v' e1 e2 e3 => ?_⟩, fun y c' e => ?_, I.free, I.freeC, fun p hp => ?_, tracked ⟨oc, hoc, I.freeC x c hc⟩ hs, by simpa using I.len⟩ ⟨c, hs, .inr hc⟩
    · exact (hs.2 b (Nat.ne_of_lt (Nat.lt_of_lt_of_le (Heap.lt_size e) (I.ok.cab x c hfn hc)))).trans (I.base.keep b o e n hb hx)
    · obtain ⟨sl, e1⟩ := I.base.slot b o e n hb hx
      exact ⟨sl, (hs.2 b (Nat.ne_of_lt (Nat.lt_of_lt_of_le (Heap.lt_size e) (I.ok.cab x c hfn hc)))).trans e1⟩
    · obtain ⟨o', e1⟩ := I.base.there b o e hx
      exact ⟨o', (hs.2 b (Nat.ne_of_lt (Nat.lt_of_lt_of_le (Heap.lt_size e) (I.ok.cab x c hfn hc)))).trans e1⟩
    · by_cases hj : j = i
      · subst hj
        rw [hi] at e1; cases e1
        rw [List.getElem?_set_self hiσ] at e2
        cases e2
        exact ⟨u, r, .inr ⟨.inl hk, c, hc, hc'⟩⟩
      · rw [List.getElem?_set_ne (Ne.symm hj)] at e2
        obtain ⟨u', r', q⟩ := hl j y v' e1 e2 e3
        refine ⟨u', r', ?_⟩
        rcases q with q | ⟨k, c', e, z'⟩
        · exact .inl q
        · refine .inr ⟨k, c', e, z'.sameBut hs ?_⟩
          rintro rfl
          exact hj (nodup_ix hN e1 (I.ok.inj _ _ _ e hc ▸ hi))
    · by_cases hcc : c' = c
      · subst hcc; exact ⟨_, hc'⟩
      · obtain ⟨w2, z2⟩ := I.cell y c' e
        exact ⟨w2, z2.sameBut hs hcc⟩
    · obtain ⟨e, n, ne, nf, d⟩ := I.pin p hp
      refine ⟨(hs.2 p.1 ?_).trans e, n, ne, nf, d⟩
      intro q
      rw [q, hoc] at e
      have q' : oc = p.2 := Option.some.inj e
      exact d w' (by rw [← q']; exact hocd)
theorem store_ok {M : Model} {A : Around} {E : Value → Shared → Prop} {i : Nat} {x : Str} {v : V} {u : Value} {Q : Unit → Shared → Prop} (I : Inv X pins σ H s) (hN : X.N.Nodup) (hi : X.N[i]? = some x) (hx : Loc X.env.scope x) (r : RelV v u)
    (h : ∀ s', Inv X pins (σ.set i (some v)) H s' → Q () s') (hf : X.fn x = true ∨ X.env.scope.names.lookup x = some .local := by first | exact .inl rfl | exact .inr rfl | assumption) : wpAny M A (storeName X.env x u) Q E s :=
  store_ok2 I hN hi hx r (fun s' I' _ => h s' I') hf
/-- behind a call or a block, the state as it is -/
theorem Inv.call' {s' : Shared} {ch : List Addr} (I : Inv X pins σ H s) (ho : s'.os = s.os) (u : Un (frs X.stack) ch H H' s.heap s'.heap) (hok : HOk X.prog X.w H' s'.heap) (hg : AllBare s'.gens)
    (hch : ∀ b ∈ ch, (b ∈ X.ex ∨ X.s_0.heap.objs.size ≤ b) ∧ b ≠ X.env.locals ∧ (∀ x c, X.env.cells.lookup x = some c → c ≠ b) ∧ ∀ p ∈ X.pn ++ pins, p.1 ≠ b) : Inv X pins σ H' s' := by
  obtain ⟨h', g', d', t', o'⟩ := s'
  have e : o' = s.os := ho
  subst e
  exact I.call (g' := g') (t' := t') (d' := d') u hok hg hch
end
/-- an exception: its class, its own dict's address (where it has one), the abstract heap behind it -/
abbrev XK := Value → Option Addr → Hp → Prop
abbrev St := List (Option V)
abbrev VK := V → Hp → Prop
/-- an expression's reading; a test's; an argument list's -/
abbrev TE := St → Hp → VK → Prop
abbrev TT := St → Hp → (Bool → Hp → Prop) → Prop
abbrev TA := St → Hp → (List V → Hp → Prop) → Prop
/-- what is wanted behind a statement -/
structure Ends where
  nx : St → Hp → Prop
  rt : VK
  bk : St → Hp → Prop := fun _ _ => False
  ct : St → Hp → Prop := fun _ _ => False
abbrev TS := Ends → St → Hp → Prop
def EP (X : Cx) (pins : List (Addr × Obj)) (σ : St) (Q : VK) (u : Value) (s' : Shared) : Prop := ∃ v H', Inv X pins σ H' s' ∧ RelV v u ∧ Q v H'
def TP (X : Cx) (pins : List (Addr × Obj)) (σ : St) (Q : Bool → Hp → Prop) (b : Bool) (s' : Shared) : Prop := ∃ H', Inv X pins σ H' s' ∧ Q b H'
def AP (X : Cx) (pins : List (Addr × Obj)) (σ : St) (Q : List V → Hp → Prop) (us : List Value) (s' : Shared) : Prop := ∃ vs H', Inv X pins σ H' s' ∧ Vals vs us ∧ Q vs H'
def SP (X : Cx) (pins : List (Addr × Obj)) (D : Ends) (f : Flow) (s' : Shared) : Prop :=
  match f with
  | .next => ∃ σ' H', Inv X pins σ' H' s' ∧ D.nx σ' H'
  | .brk => ∃ σ' H', Inv X pins σ' H' s' ∧ D.bk σ' H'
  | .cont => ∃ σ' H', Inv X pins σ' H' s' ∧ D.ct σ' H'
  | .ret u => ∃ v σ' H', Inv X pins σ' H' s' ∧ RelV v u ∧ D.rt v H'
def PE (X : Cx) (e : Expr) (t : TE) : Prop :=
  ∀ (pins : List (Addr × Obj)) (s : Shared) (σ : St) (H : Hp) (Q : VK), Inv X pins σ H s → t σ H Q → wpAny (model X.prog X.w) X.A (eval e X.env) (EP X pins σ Q) X.xe s
def PT (X : Cx) (e : Expr) (t : TT) : Prop :=
  ∀ (pins : List (Addr × Obj)) (s : Shared) (σ : St) (H : Hp) (Q : Bool → Hp → Prop), Inv X pins σ H s → t σ H Q → wpAny (model X.prog X.w) X.A (isTrue e X.env (eval e X.env)) (TP X pins σ Q) X.xe s
/-- a test whatever its 'whole' is (and, or) -/
def PW (X : Cx) (e : Expr) (t : TT) : Prop :=
  ∀ (whole : Sem Value) (pins : List (Addr × Obj)) (s : Shared) (σ : St) (H : Hp) (Q : Bool → Hp → Prop), Inv X pins σ H s → t σ H Q → wpAny (model X.prog X.w) X.A (isTrue e X.env whole) (TP X pins σ Q) X.xe s
theorem PW.pt {X : Cx} {e : Expr} {t : TT} (h : PW X e t) : PT X e t := h _
/-- an argument list (no star), from the left -/
def PA (X : Cx) (es : List Expr) (t : TA) : Prop :=
  ∀ (pos : Pos) (pins : List (Addr × Obj)) (s : Shared) (σ : St) (H : Hp) (Q : List V → Hp → Prop), Inv X pins σ H s → t σ H Q → wpAny (model X.prog X.w) X.A (spliced (backTo pos (starEach es X.env))) (AP X pins σ Q) X.xe s
def PS (X : Cx) (st : Stmt) (t : TS) : Prop :=
  ∀ (pins : List (Addr × Obj)) (s : Shared) (σ : St) (H : Hp) (D : Ends), Inv X pins σ H s → t D σ H → wpAny (model X.prog X.w) X.A (exec st X.env) (SP X pins D) X.xe s
def PSs (X : Cx) (st : List Stmt) (t : TS) : Prop :=
  ∀ (pins : List (Addr × Obj)) (s : Shared) (σ : St) (H : Hp) (D : Ends), Inv X pins σ H s → t D σ H → wpAny (model X.prog X.w) X.A (execs st X.env) (SP X pins D) X.xe s
/-- weaken the end -/
theorem thn {α : Type} {t : Sem α} {Q Q' : α → Shared → Prop} {M : Model} {A : Around} {E : Value → Shared → Prop} {s : Shared} (h : wpAny M A t Q E s) (hQ : ∀ a s, Q a s → Q' a s) : wpAny M A t Q' E s := wpAny_mono h hQ fun _ _ x => x
end L2
namespace L2
open PySem PySem.Spec PyProof.Rows
section
variable {X : Cx}
def tVar (i : Nat) : TE := fun σ H Q => ∃ v, σ[i]? = some (some v) ∧ Q v H
def tC (v : V) : TE := fun _ H Q => Q v H
theorem pe_var {i : Nat} {x : Str} {pos : Pos} (hN : X.N[i]? = some x) (hv : Vis X.env.scope x) (hd : (x == ("__debug__" : Str)) = false := by decide) (hcd : (x == ("__classdict__" : Str)) = false := by decide) : PE X (.Name x pos) (tVar i) := by
  intro pins s σ H Q I h
  obtain ⟨v, e, h⟩ := h
  obtain ⟨m, hn, hl⟩ := I.loc
  obtain ⟨u, r, l⟩ := hl i x v hN e hv
  have fin : EP X pins σ Q u s := ⟨v, H, I, r, h⟩
  rcases l with ⟨hk, hm⟩ | ⟨hk, c, hc, hcell⟩
  · exact wpAny_Name (wpAny_loadName_local I.ok.kind hk hn hm fin) hd
  · rcases hk with hk | hk
    · exact wpAny_Name (wpAny_loadName_cell I.ok.kind hk hc hcell fin) hd
    · exact wpAny_Name (wpAny_loadName_free I.ok.kind hk hc hcell fin hcd) hd
theorem pe_int {i j pos} : PE X (.Constant (.int i) j pos) (tC (.int i)) := fun _ _ _ H _ I h => wpAny_Constant_int ⟨.int i, H, I.tok _, ⟨_, rfl⟩, h⟩
theorem pe_bl {b j pos} : PE X (.Constant (.bool b) j pos) (tC (.bl b)) := fun _ _ _ H _ I h => Constant_bool ⟨.bl b, H, I, rfl, h⟩
theorem pe_non {j pos} : PE X (.Constant .none j pos) (tC .non) := fun _ _ _ H _ I h => Constant_none ⟨.non, H, I, rfl, h⟩
theorem pe_str {x j pos} : PE X (.Constant (.str x) j pos) (tC (.str x)) := fun _ _ _ H _ I h => Calls.Constant_str ⟨.str x, H, I.tok _, ⟨_, rfl⟩, h⟩
/-- a global name of the def -/
def Gl (X : Cx) (x : Str) : Prop := X.env.kindOf x = some .globalImplicit
theorem ld_glob {E : Value → Shared → Prop} {pins : List (Addr × Obj)} {s : Shared} {σ : St} {H : Hp} {x : Str} {u : Value} {pos : Pos} {Q : Value → Shared → Prop} (I : Inv X pins σ H s) (hg : Gl X x) (hm : X.mg x = some u) (h : Q u s)
    (hd : (x == ("__debug__" : Str)) = false := by decide) : wpAny (model X.prog X.w) X.A (eval (.Name x pos) X.env) Q E s :=
  Calls.Name_function_global I.ok.kind hg (Calls.loadGlobal_global (by rw [I.ok.glob]; exact I.mod.glob.keeps I.bk) hm h) hd
theorem ld_blt {E : Value → Shared → Prop} {pins : List (Addr × Obj)} {s : Shared} {σ : St} {H : Hp} {x : Str} {u : Value} {pos : Pos} {Q : Value → Shared → Prop} (I : Inv X pins σ H s) (hg : Gl X x) (hm : X.mg x = none) (hv : bootBuiltins x = some u) (h : Q u s)
    (hn : x ≠ "__name__" := by decide) (hd : (x == ("__debug__" : Str)) = false := by decide) : wpAny (model X.prog X.w) X.A (eval (.Name x pos) X.env) Q E s := by
  obtain ⟨mb, h1, h2⟩ := I.mod.blt
  exact Calls.Name_function_global I.ok.kind hg (Calls.loadGlobal_builtin (by rw [I.ok.glob]; exact I.mod.glob.keeps I.bk) hm (by rw [I.ok.blt]; exact h1.keeps I.bk) ((h2 x hn).trans hv) h) hd
theorem pe_bltn {x : Str} {v : V} {u : Value} {pos : Pos} (hg : Gl X x) (hm : X.mg x = none) (hv : bootBuiltins x = some u) (r : RelV v u) (hn : x ≠ "__name__" := by decide) (hd : (x == ("__debug__" : Str)) = false := by decide) : PE X (.Name x pos) (tC v) :=
  fun _ _ _ H _ I h => ld_blt I hg hm hv ⟨v, H, I, r, h⟩ hn hd
/-- two ints -/
def t2I (ta tb : TE) (k : Int → Int → Hp → Prop) : St → Hp → Prop := fun σ H => ta σ H fun x H1 => tb σ H1 fun y H2 => ∃ i j, x = .int i ∧ y = .int j ∧ k i j H2
def tAdd (ta tb : TE) : TE := fun σ H Q => t2I ta tb (fun i j H2 => Q (.int (i + j)) H2) σ H
def tSub (ta tb : TE) : TE := fun σ H Q => t2I ta tb (fun i j H2 => Q (.int (i - j)) H2) σ H
/-- the left factor below 2^64 -/
def tMul (ta tb : TE) : TE := fun σ H Q => t2I ta tb (fun i j H2 => (-(2 ^ 64) < i ∧ i < 2 ^ 64) ∧ Q (.int (i * j)) H2) σ H
variable {a b : Expr} {ta tb : TE} {pos : Pos}
def PC (X : Cx) (op : CmpOp) (a b : Expr) (t : TE) : Prop :=
  ∀ (pins : List (Addr × Obj)) (s : Shared) (σ : St) (H : Hp) (Q : VK), Inv X pins σ H s → t σ H Q →
    wpAny (model X.prog X.w) X.A (eval a X.env) (fun v s₁ => wpAny (model X.prog X.w) X.A (eval b X.env) (fun u s₂ => wpAny (model X.prog X.w) X.A (compareOp op v u) (EP X pins σ Q) X.xe s₂) X.xe s₁) X.xe s
def tCmp (p : Int → Int → Bool) (ta tb : TE) : TE := fun σ H Q => t2I ta tb (fun i j H2 => Q (.bl (p i j)) H2) σ H
abbrev tLt : TE → TE → TE := tCmp fun i j => decide (i < j)
abbrev tLe : TE → TE → TE := tCmp fun i j => decide (i ≤ j)
abbrev tGt : TE → TE → TE := tCmp fun i j => decide (j < i)
abbrev tGe : TE → TE → TE := tCmp fun i j => decide (j ≤ i)
abbrev tEqI : TE → TE → TE := tCmp fun i j => decide (i = j)
abbrev tNeI : TE → TE → TE := tCmp fun i j => !decide (i = j)
/-- is None -/
def tIsN (ta : TE) : TE := fun σ H Q => ta σ H fun x H1 => Q (.bl (decide (x = .non))) H1
def tNotN (ta : TE) : TE := fun σ H Q => ta σ H fun x H1 => Q (.bl (!decide (x = .non))) H1
/-- a comparison as a value, as a test -/
def tB (t : TE) : TT := fun σ H Q => t σ H fun x H1 => ∃ c, x = .bl c ∧ Q c H1
/-- an expression whose value is a bool, as a test -/
theorem pt_val {e : Expr} {t : TE} (h : PE X e t) (he : ∀ whole, isTrue e X.env whole = (do let v ← whole; standAt e.pos; holding [v] (truthy v)) := by intro _; rfl) : PT X e (tB t) := by
  intro pins s σ H Q I hw
  refine isTrue_plain (thn (h pins s σ H _ I hw) fun v s1 ⟨x, H1, I1, r1, q1⟩ => ?_) (he _)
  obtain ⟨d, rfl, q⟩ := q1
  cases r1
  exact wpAny_truthy_bool ⟨H1, I1, q⟩
variable {tA tB' : TT} {rest : List Expr}
def tAnd (t u : TT) : TT := fun σ H Q => t σ H fun c H1 => if c = true then u σ H1 Q else Q false H1
def tOr (t u : TT) : TT := fun σ H Q => t σ H fun c H1 => if c = true then Q true H1 else u σ H1 Q
def tNot (t : TT) : TT := fun σ H Q => t σ H fun c H1 => Q (!c) H1
theorem pw_and1 (ha : PT X a tA) : PW X (.BoolOp .And [a] pos) tA := by
  intro wh pins s σ H Q I h
  refine isTrue_and (thn (ha pins s σ H Q I h) fun c s1 e => ?_)
  cases c with
  | true => exact isTrue_and_nil e
  | false => exact e
theorem pw_or1 (ha : PT X a tA) : PW X (.BoolOp .Or [a] pos) tA := by
  intro wh pins s σ H Q I h
  refine isTrue_or (thn (ha pins s σ H Q I h) fun c s1 e => ?_)
  cases c with
  | false => exact isTrue_or_nil e
  | true => exact e
theorem pw_and (ha : PT X a tA) (hb : PW X (.BoolOp .And (b :: rest) pos) tB') : PW X (.BoolOp .And (a :: b :: rest) pos) (tAnd tA tB') := by
  intro wh pins s σ H Q I h
  refine isTrue_and (thn (ha pins s σ H _ I h) fun c s1 ⟨H1, I1, q1⟩ => ?_)
  cases c with
  | true => exact hb wh pins s1 σ H1 Q I1 q1
  | false => exact ⟨H1, I1, q1⟩
theorem pw_or (ha : PT X a tA) (hb : PW X (.BoolOp .Or (b :: rest) pos) tB') : PW X (.BoolOp .Or (a :: b :: rest) pos) (tOr tA tB') := by
  intro wh pins s σ H Q I h
  refine isTrue_or (thn (ha pins s σ H _ I h) fun c s1 ⟨H1, I1, q1⟩ => ?_)
  cases c with
  | true => exact ⟨H1, I1, q1⟩
  | false => exact hb wh pins s1 σ H1 Q I1 q1
theorem pt_not (ha : PT X a tA) : PT X (.UnaryOp .Not a pos) (tNot tA) := by
  intro pins s σ H Q I h
  exact isTrue_not (ha pins s σ H (fun c H1 => Q (!c) H1) I h)
/-- .. as values (bools) -/
def tAndV (ta tb : TE) : TE := fun σ H Q => ta σ H fun x H1 => ∃ c, x = .bl c ∧ if c = true then tb σ H1 Q else Q (.bl false) H1
def tOrV (ta tb : TE) : TE := fun σ H Q => ta σ H fun x H1 => ∃ c, x = .bl c ∧ if c = true then Q (.bl true) H1 else tb σ H1 Q
def tNotV (ta : TE) : TE := fun σ H Q => ta σ H fun x H1 => ∃ c, x = .bl c ∧ Q (.bl (!c)) H1
theorem pe_one {op} {t : TE} (h : PE X a t) : PE X (.BoolOp op [a] pos) t := fun pins s σ H Q I hw => BoolOp_one (h pins s σ H Q I hw)
theorem pe_and (ha : PE X a ta) (hb : PE X (.BoolOp .And (b :: rest) pos) tb) : PE X (.BoolOp .And (a :: b :: rest) pos) (tAndV ta tb) := by
  intro pins s σ H Q I h
  refine BoolOp_and (thn (ha pins s σ H _ I h) fun v s1 ⟨x, H1, I1, r1, q1⟩ => ?_)
  obtain ⟨c, rfl, q1⟩ := q1
  cases r1
  refine wpAny_truthy_bool ?_
  cases c with
  | true => exact hb pins s1 σ H1 Q I1 q1
  | false => exact ⟨.bl false, H1, I1, rfl, q1⟩
theorem pe_not (ha : PE X a ta) : PE X (.UnaryOp .Not a pos) (tNotV ta) := by
  intro pins s σ H Q I h
  refine UnaryOp_ (thn (ha pins s σ H _ I h) fun v s1 ⟨x, H1, I1, r1, q1⟩ => ?_)
  obtain ⟨c, rfl, q1⟩ := q1
  cases r1
  exact not_of (wpAny_truthy_bool ⟨.bl (!c), H1, I1, rfl, q1⟩)
/-- a if t else b -/
def tIf (t : TT) (ta tb : TE) : TE := fun σ H Q => t σ H fun c H1 => if c = true then ta σ H1 Q else tb σ H1 Q
end
end L2
namespace L2
open PySem PySem.Spec PyProof.Rows
def SqL (K : PySem.W.Frag) (H : Hp) (a : Addr) (xs : List V) : Prop :=
  Rd H a (.lst xs) ∨
    ∃ (o : Obj) (its : Array Value) (n : Nat), K.lookup a = some o ∧ o.cls = .type "list" ∧ o.dict = none ∧ o.data = .seq its n ∧ its.size ≤ sizeLine ∧ Vals xs its.toList
def SqT (K : PySem.W.Frag) (H : Hp) (a : Addr) (xs : List V) : Prop :=
  Rd H a (.tup xs) ∨
    ∃ (o : Obj) (its : Array Value) (n : Nat), K.lookup a = some o ∧ o.cls = .type "tuple" ∧ o.data = .seq its n ∧ its.size ≤ sizeLine ∧ Vals xs its.toList
def absV : Value → Option V
  | .none => some .non
  | .bool b => some (.bl b)
  | .int i _ => some (.int i)
  | .str x _ => some (.str x)
  | .bytes b _ => some (.byt b)
  | .float b _ => some (.flt b)
  | .ref a => some (.ref a)
  | .type n => some (.ty n)
  | _ => none
theorem RelV.abs {x : V} {u : Value} (r : RelV x u) : absV u = some x := by
  cases x with
  | non => cases r; rfl
  | bl _ => cases r; rfl
  | int _ => obtain ⟨t, rfl⟩ := r; rfl
  | str _ => obtain ⟨t, rfl⟩ := r; rfl
  | byt _ => obtain ⟨t, rfl⟩ := r; rfl
  | flt _ => obtain ⟨t, rfl⟩ := r; rfl
  | ref _ => cases r; rfl
  | ty _ => cases r; rfl
theorem RelV.inj {x y : V} {u : Value} (r : RelV x u) (q : RelV y u) : x = y := Option.some.inj (r.abs.symm.trans q.abs)
theorem Vals.inj : ∀ {xs ys : List V} {us : List Value}, Vals xs us → Vals ys us → xs = ys
  | _, _, _, .nil, .nil => rfl
  | _, _, _, .cons r t, .cons r' t' => by rw [r.inj r', Vals.inj t t']
section
variable {X : Cx} {pins : List (Addr × Obj)} {σ : St} {H : Hp} {s : Shared} {a : Addr} {xs ys : List V}
theorem SqL.of {K : PySem.W.Frag} (h : H a = some (.lst xs)) : SqL K H a xs := .inl (.inl h)
theorem SqT.of {K : PySem.W.Frag} (h : H a = some (.tup xs)) : SqT K H a xs := .inl (.inl h)
theorem Inv.list (I : Inv X pins σ H s) (h : SqL X.K H a xs) : ∃ its : List Value, Vals xs its ∧ PlainL s.heap a its.toArray ∧ xs.length ≤ sizeLine := by
  rcases h with h | ⟨o, its, n, hk, hc, hd, hs, hz, r⟩
  · obtain ⟨z, its, n, r, e⟩ := h.ok I.hok
    exact ⟨its, r, ⟨_, n, e, rfl, rfl, rfl⟩, z⟩
  · refine ⟨its.toList, r, ⟨o, n, I.kIn a o hk, hc, hd, by simpa using hs⟩, ?_⟩
    have e := r.length
    simp only [Array.length_toList] at e
    omega
theorem Inv.tuple (I : Inv X pins σ H s) (h : SqT X.K H a xs) : ∃ its : List Value, Vals xs its ∧ IsTup s.heap a its.toArray ∧ xs.length ≤ sizeLine := by
  rcases h with h | ⟨o, its, n, hk, hc, hs, hz, r⟩
  · obtain ⟨z, its, r, p⟩ := h.ok I.hok
    exact ⟨its, r, p, z⟩
  · refine ⟨its.toList, r, ⟨o, I.kIn a o hk, hc, n, by simpa using hs⟩, ?_⟩
    have e := r.length
    simp only [Array.length_toList] at e
    omega
theorem Inv.list_inj (I : Inv X pins σ H s) (h : SqL X.K H a xs) (h' : SqL X.K H a ys) : xs = ys := by
  obtain ⟨its, r, ⟨o, n, e, _, _, d⟩, _⟩ := I.list h
  obtain ⟨its', r', ⟨o', n', e', _, _, d'⟩, _⟩ := I.list h'
  rw [e] at e'; cases e'
  rw [d] at d'
  injection d' with d1 _
  have : its = its' := by simpa using congrArg Array.toList d1
  subst this
  exact r.inj r'
theorem Inv.tuple_inj (I : Inv X pins σ H s) (h : SqT X.K H a xs) (h' : SqT X.K H a ys) : xs = ys := by
  obtain ⟨its, r, ⟨o, e, _, n, d⟩, _⟩ := I.tuple h
  obtain ⟨its', r', ⟨o', e', _, n', d'⟩, _⟩ := I.tuple h'
  rw [e] at e'; cases e'
  rw [d] at d'
  injection d' with d1 _
  have : its = its' := by simpa using congrArg Array.toList d1
  subst this
  exact r.inj r'
end
abbrev Cx.wish (X : Cx) (E : Value → Shared → Prop) : Cx := { X with xe := E }
/-- no exception leaves -/
abbrev Cx.nox (X : Cx) : Cx := X.wish fun _ _ => False
theorem Cx.Ok.wish {X : Cx} (ok : X.Ok) (E : Value → Shared → Prop) : (X.wish E).Ok :=
  ⟨ok.mod, ok.kind, ok.glob, ok.blt, ok.above, ok.inj, ok.has, ok.cab, ok.hd, ok.frames, ok.stk, ok.exf, ok.bs, ok.bsz, ok.noex, ok.exfs, ok.funs, ok.frf⟩
theorem Cx.Ok.unwish {X : Cx} {E : Value → Shared → Prop} (ok : (X.wish E).Ok) : X.Ok :=
  ⟨ok.mod, ok.kind, ok.glob, ok.blt, ok.above, ok.inj, ok.has, ok.cab, ok.hd, ok.frames, ok.stk, ok.exf, ok.bs, ok.bsz, ok.noex, ok.exfs, ok.funs, ok.frf⟩
section
variable {X : Cx} {pins : List (Addr × Obj)} {σ : St} {H : Hp} {s : Shared} {E : Value → Shared → Prop}
theorem Inv.wish (I : Inv X pins σ H s) (E : Value → Shared → Prop) : Inv (X.wish E) pins σ H s := ⟨I.ok.wish E, I.os, I.bare, I.base, I.loc, I.cell, I.free, I.freeC, I.pin, I.hok, I.len⟩
theorem Inv.unwish (I : Inv (X.wish E) pins σ H s) : Inv X pins σ H s := ⟨I.ok.unwish, I.os, I.bare, I.base, I.loc, I.cell, I.free, I.freeC, I.pin, I.hok, I.len⟩
theorem SP.unwish {D : Ends} {f : Flow} {s' : Shared} (h : SP (X.wish E) pins D f s') : SP X pins D f s' := by
  cases f with
  | next => obtain ⟨σ', H', I, q⟩ := h; exact ⟨σ', H', I.unwish, q⟩
  | brk => obtain ⟨σ', H', I, q⟩ := h; exact ⟨σ', H', I.unwish, q⟩
  | cont => obtain ⟨σ', H', I, q⟩ := h; exact ⟨σ', H', I.unwish, q⟩
  | ret u => obtain ⟨v, σ', H', I, r, q⟩ := h; exact ⟨v, σ', H', I.unwish, r, q⟩
theorem PE.nox {e : Expr} {t : TE} (h : PE X.nox e t) : PE X e t := fun pins s σ H Q I hw =>
  wpAny_mono (h pins s σ H Q (I.wish _) hw) (fun _ _ ⟨v, H', I', r, q⟩ => ⟨v, H', I'.unwish, r, q⟩) fun _ _ z => False.elim z
theorem PT.nox {e : Expr} {t : TT} (h : PT X.nox e t) : PT X e t := fun pins s σ H Q I hw =>
  wpAny_mono (h pins s σ H Q (I.wish _) hw) (fun _ _ ⟨H', I', q⟩ => ⟨H', I'.unwish, q⟩) fun _ _ z => False.elim z
theorem PSs.nox {st : List Stmt} {t : TS} (h : PSs X.nox st t) : PSs X st t := fun pins s σ H D I hw =>
  wpAny_mono (h pins s σ H D (I.wish _) hw) (fun _ _ q => q.unwish) fun _ _ z => False.elim z
end
section
variable {X : Cx} {st : Stmt} {rest : List Stmt} {t u : TS} {e : Expr} {te : TE} {pos : Pos}
def tNext : TS := fun D σ H => D.nx σ H
def tSeq (t u : TS) : TS := fun D σ H => t { D with nx := u D } σ H
theorem pss_nil : PSs X [] tNext := fun _ _ σ H _ I h => wpAny_execs_nil ⟨σ, H, I, h⟩
theorem pss_cons (h1 : PS X st t) (h2 : PSs X rest u) : PSs X (st :: rest) (tSeq t u) := by
  intro pins s σ H D I h
  refine wpAny_execs_cons (thn (h1 pins s σ H { D with nx := u D } I h) fun f s1 q => ?_)
  cases f with
  | next =>
    obtain ⟨σ', H', I', q⟩ := q
    exact h2 pins s1 σ' H' D I' q
  | ret v => exact q
  | brk => exact q
  | cont => exact q
theorem pss_one (h1 : PS X st t) : PSs X [st] t := by
  intro pins s σ H D I h
  refine wpAny_execs_cons (thn (h1 pins s σ H D I h) fun f s1 q => ?_)
  cases f with
  | next => exact wpAny_execs_nil q
  | ret v => exact q
  | brk => exact q
  | cont => exact q
def tBreak : TS := fun D σ H => D.bk σ H
def tCont : TS := fun D σ H => D.ct σ H
/-- in a def's body nothing is shown -/
theorem Inv.quiet {pins : List (Addr × Obj)} {σ : St} {H : Hp} {s : Shared} (I : Inv X pins σ H s) : interactive X.env = false := by simp [interactive, I.ok.kind]
/-- an expression whose value is dropped -/
def tDrop (te : TE) : TS := fun D σ H => te σ H fun _ H1 => D.nx σ H1
theorem ps_expr (he : PE X e te) (hs : swapsWith e none pos.line X.env = pure false := by rfl) : PS X (.Expr e pos) (tDrop te) := by
  intro pins s σ H D I h
  exact wpAny_Expr_any (thn (he pins s σ H _ I h) fun v s1 ⟨x, H1, I1, r1, q1⟩ => ⟨σ, H1, I1, q1⟩) I.quiet hs
def tRet (te : TE) : TS := fun D σ H => te σ H D.rt
theorem ps_ret (he : PE X e te) : PS X (.Return (some e) pos) (tRet te) := by
  intro pins s σ H D I h
  exact wpAny_Return_some (thn (he pins s σ H _ I h) fun v s1 ⟨x, H1, I1, r1, q1⟩ => ⟨x, σ, H1, I1, r1, q1⟩)
def tRetN : TS := fun D _ H => D.rt .non H
def tIfS (c : TT) (t u : TS) : TS := fun D σ H => c σ H fun b H1 => if b = true then t D σ H1 else u D σ H1
theorem ps_if {c : Expr} {a b : List Stmt} {tc : TT} (hc : PT X c tc) (ha : PSs X a t) (hb : PSs X b u) : PS X (.If c a b pos) (tIfS tc t u) := by
  intro pins s σ H D I h
  refine wpAny_If (thn (hc pins s σ H _ I h) fun d s1 ⟨H1, I1, q1⟩ => ?_)
  cases d with
  | true => exact ha pins s1 σ H1 D I1 q1
  | false => exact hb pins s1 σ H1 D I1 q1
/-- code that the proof never comes to -/
def tNever : TS := fun _ _ _ => False
theorem ps_never : PS X st tNever := fun _ _ _ _ _ _ h => h.elim
end
abbrev TG := V → St → Hp → (St → Hp → Prop) → Prop
abbrev TGs := List V → St → Hp → (St → Hp → Prop) → Prop
def PG (X : Cx) (target : Expr) (t : TG) : Prop :=
  ∀ (pins : List (Addr × Obj)) (s : Shared) (σ : St) (H : Hp) (v : V) (u : Value) (Q : St → Hp → Prop), Inv X pins σ H s → RelV v u → t v σ H Q →
    wpAny (model X.prog X.w) X.A (assign target X.env u) (fun _ s' => ∃ σ' H', Inv X pins σ' H' s' ∧ Q σ' H') X.xe s
/-- several targets, one after another -/
def PGs (X : Cx) (ts : List Expr) (t : TGs) : Prop :=
  ∀ (pins : List (Addr × Obj)) (s : Shared) (σ : St) (H : Hp) (vs : List V) (us : List Value) (Q : St → Hp → Prop), Inv X pins σ H s → Vals vs us → t vs σ H Q →
    wpAny (model X.prog X.w) X.A (assignInOrder ((assignEach ts X.env).map (·.2)) us) (fun _ s' => ∃ σ' H', Inv X pins σ' H' s' ∧ Q σ' H') X.xe s
/-- o[i] = v, by values -/
abbrev TSet := V → V → V → Hp → (Hp → Prop) → Prop
def PSet (X : Cx) (t : TSet) : Prop :=
  ∀ (pins : List (Addr × Obj)) (s : Shared) (σ : St) (H : Hp) (o i v : V) (ov iv u : Value) (Q : Hp → Prop), Inv X pins σ H s → RelV o ov → RelV i iv → RelV v u → t o i v H Q →
    wpAny (model X.prog X.w) X.A (setItem ov iv u) (fun _ s' => ∃ H', Inv X pins σ H' s' ∧ Q H') X.xe s
/-- a op= b, by values -/
abbrev TIp := V → V → Hp → VK → Prop
def PIp (X : Cx) (op : Operator) (t : TIp) : Prop :=
  ∀ (pins : List (Addr × Obj)) (s : Shared) (σ : St) (H : Hp) (x y : V) (v u : Value) (Q : VK), Inv X pins σ H s → RelV x v → RelV y u → t x y H Q →
    wpAny (model X.prog X.w) X.A (inplaceOp op v u) (EP X pins σ Q) X.xe s
section
variable {X : Cx} {pos : Pos}
def gName (i : Nat) : TG := fun v σ H Q => Q (σ.set i (some v)) H
theorem pg_name {i : Nat} {x : Str} (hN : X.N.Nodup) (hi : X.N[i]? = some x) (hx : Loc X.env.scope x) (hf : X.fn x = true ∨ X.env.scope.names.lookup x = some .local := by first | exact .inl rfl | exact .inr rfl | assumption) : PG X (.Name x pos) (gName i) := by
  intro pins s σ H v u Q I r h
  exact wpAny_assign_Name (store_ok I hN hi hx r (fun s' I' => ⟨_, H, I', h⟩) hf)
def gNil : TGs := fun vs σ H Q => vs = [] ∧ Q σ H
def gCons (t : TG) (u : TGs) : TGs := fun vs σ H Q => ∃ v r, vs = v :: r ∧ t v σ H fun σ' H' => u r σ' H' Q
theorem pgs_nil : PGs X [] gNil := by
  intro pins s σ H vs us Q I r h
  obtain ⟨e, h⟩ := h
  subst e
  cases r
  exact assignInOrder_nil ⟨σ, H, I, h⟩
theorem pgs_cons {e : Expr} {es : List Expr} {t : TG} {u : TGs} (h1 : PG X e t) (h2 : PGs X es u)
    (hs : (assignEach (e :: es) X.env).map (·.2) = assign e X.env :: (assignEach es X.env).map (·.2) := by rfl) : PGs X (e :: es) (gCons t u) := by
  intro pins s σ H vs us Q I r h
  obtain ⟨v, vr, e1, h⟩ := h
  subst e1
  cases r with
  | cons r rr =>
    rw [hs]
    refine assignInOrder_cons (thn (h1 pins s σ H _ _ _ I r h) fun _ s1 ⟨σ1, H1, I1, q1⟩ => ?_)
    exact h2 pins s1 σ1 H1 _ _ Q I1 rr q1
/-- (a, b, ..) = a tuple of that length -/
def gTup (K : PySem.W.Frag) (n : Nat) (t : TGs) : TG := fun v σ H Q => ∃ a xs, v = .ref a ∧ SqT K H a xs ∧ xs.length = n ∧ t xs σ H Q
theorem pg_tup {es : List Expr} {k : Nat} {t : TGs} {n : Nat} (hc : X.calm = true) (h : PGs X es t)
    (hn : (assignEach es X.env).length = n := by rfl) (hst : (assignEach es X.env).findIdx? (·.1) = none := by rfl) : PG X (.Tuple es k pos) (gTup X.K n t) := by
  intro pins s σ H v u Q I r hw
  obtain ⟨a, xs, e1, hq, hl, hw⟩ := hw
  subst e1
  cases r
  obtain ⟨its, rv, ht, hz⟩ := I.tuple hq
  refine assign_Tuple_tuple (I.ok.hd hc) ht (by simp [hn, ← hl, rv.length]) hst fun h' hx => ?_
  have I1 : Inv X pins σ H { s with heap := h' } := I.kept (t' := s.toks) fun b o e => hx b o (Nat.ne_of_lt (Heap.lt_size e)) e
  exact h pins _ σ H xs _ Q I1 (by simpa using rv) hw
/-- o[i] = .. -/
def gSub (to ti : TE) (t : TSet) : TG := fun v σ H Q => to σ H fun o H1 => ti σ H1 fun i H2 => t o i v H2 fun H3 => Q σ H3
/-- target = value -/
def tAsg (te : TE) (g : TG) : TS := fun D σ H => te σ H fun x H1 => g x σ H1 D.nx
/-- name = value -/
theorem ps_set {i : Nat} {x : Str} {e : Expr} {te : TE} {pos' : Pos} (hN : X.N.Nodup) (hi : X.N[i]? = some x) (hx : Loc X.env.scope x) (he : PE X e te) (hs : swapsWith e (some (.Name x pos')) pos.line X.env = pure false := by rfl) (hf : X.fn x = true ∨ X.env.scope.names.lookup x = some .local := by first | exact .inl rfl | exact .inr rfl | assumption) :
    PS X (.Assign [.Name x pos'] e pos) (tAsg te (gName i)) := by
  intro pins s σ H D I h
  refine wpAny_Assign_Name (thn (he pins s σ H _ I h) fun v s1 ⟨y, H1, I1, r1, q1⟩ => ?_) hs
  exact store_ok I1 hN hi hx r1 (fun s2 I2 => ⟨_, H1, I2, q1⟩) hf
/-- a, b = x, y with plain local names: stored from the right; the pair itself is not tracked (the opening rows as in PyProof/Rows/TupAssign.lean:23) -/
def tPar (i j : Nat) (ta : TA) : TS := fun D σ H => ta σ H fun vs H1 => ∃ v w, vs = [v, w] ∧ D.nx ((σ.set i (some v)).set j (some w)) H1
/-- name op= e -/
def tAug (i : Nat) (te : TE) (ti : TIp) : TS := fun D σ H => ∃ x, σ[i]? = some (some x) ∧ te σ H fun y H1 => ti x y H1 fun z H2 => D.nx (σ.set i (some z)) H2
/-- o[i] op= e -/
def tAugS (to ti te : TE) (tget : V → V → Hp → VK → Prop) (tip : TIp) (tset : TSet) : TS := fun D σ H => to σ H fun o H1 => ti σ H1 fun i H2 => tget o i H2 fun x H3 => te σ H3 fun y H4 => tip x y H4 fun z H5 => tset o i z H5 fun H6 => D.nx σ H6
/-- o[i], by values -/
def PGet (X : Cx) (t : V → V → Hp → VK → Prop) : Prop :=
  ∀ (pins : List (Addr × Obj)) (s : Shared) (σ : St) (H : Hp) (o i : V) (ov iv : Value) (Q : VK), Inv X pins σ H s → RelV o ov → RelV i iv → t o i H Q →
    wpAny (model X.prog X.w) X.A (getItem ov iv) (EP X pins σ Q) X.xe s
/-- ints -/
def ipI (f : Int → Int → Int) : TIp := fun x y H Q => ∃ i j, x = .int i ∧ y = .int j ∧ Q (.int (f i j)) H
end
section
variable {X : Cx} {pos : Pos}
/-- the invariant W with its measure -/
def tWhile (c : TT) (tb : TS) : TS := fun D σ H => ∃ W : Nat → St → Hp → Prop, (∃ m, W m σ H) ∧ ∀ m σ H, W m σ H →
  c σ H fun b H1 => if b = true then ∃ N : St → Hp → Prop, (∀ σ' H', N σ' H' → ∃ m', m' < m ∧ W m' σ' H') ∧ tb { D with nx := N, ct := N, bk := D.nx } σ H1 else D.nx σ H1
theorem ps_while {c : Expr} {body : List Stmt} {tc : TT} {tb : TS} (hp : PassesOwn (model X.prog X.w) X.A X.env X.xe) (hc : PT X c tc) (hb : PSs X body tb) : PS X (.While c body [] pos) (tWhile tc tb) := by
  intro pins s σ H D I h
  obtain ⟨W, ⟨m0, w0⟩, turn⟩ := h
  refine wpAny_While (codeAny_whileLoop (fun n s' => ∃ σ' H', Inv X pins σ' H' s' ∧ W n σ' H') ?_ m0 ⟨σ, H, I, w0⟩)
  rintro n s1 ⟨σ1, H1, I1, w1⟩
  refine wpAny_passesOwn hp (thn (hc pins s1 σ1 H1 _ I1 (turn n σ1 H1 w1)) fun b s2 ⟨H2, I2, q2⟩ => ?_)
  cases b with
  | true =>
    obtain ⟨N, hN, q2⟩ := q2
    rw [if_pos rfl]
    refine wpAny_passesOwn hp (thn (hb pins s2 σ1 H2 _ I2 q2) fun f s3 q3 => ?_)
    cases f with
    | next =>
      obtain ⟨σ3, H3, I3, n3⟩ := q3
      obtain ⟨m', hm, w3⟩ := hN σ3 H3 n3
      exact ⟨m', hm, σ3, H3, I3, w3⟩
    | cont =>
      obtain ⟨σ3, H3, I3, n3⟩ := q3
      obtain ⟨m', hm, w3⟩ := hN σ3 H3 n3
      exact ⟨m', hm, σ3, H3, I3, w3⟩
    | brk => exact q3
    | ret v => exact q3
  | false =>
    rw [if_neg Bool.false_ne_true]
    exact wpAny_execs_nil ⟨σ1, H2, I2, q2⟩
end
/-- at turn i: it yields x (the heap may grow), or it stops -/
structure It where
  go : Nat → Hp → Prop
  yld : Nat → Hp → V → Hp → Prop
  stop : Nat → Hp → Prop
/-- the iterator's own objects may turn: they are not the frame's, not pinned, younger than the entry (or a comprehension's own) -/
def FpOk (X : Cx) (pins : List (Addr × Obj)) (H : Hp) (b : Addr) : Prop :=
  H b = none ∧ b ≠ X.env.locals ∧ b ∉ X.fs ∧ (b ∈ X.ex ∨ X.s_0.heap.objs.size ≤ b) ∧ (∀ x c, X.env.cells.lookup x = some c → c ≠ b) ∧ ∀ p ∈ X.pn ++ pins, p.1 ≠ b
theorem Inv.fpOk {X : Cx} {pins : List (Addr × Obj)} {σ : St} {H H' : Hp} {s : Shared} {b : Addr} (I : Inv X pins σ H s) (hb : s.heap.objs.size ≤ b) (hn : H' b = none) : FpOk X pins H' b := by
  refine ⟨hn, Nat.ne_of_gt (Nat.lt_of_lt_of_le I.lt hb), I.nofs hb, .inr (Nat.le_trans I.sz hb), fun x c e z => ?_, fun p hp z => ?_⟩
  · obtain ⟨v, q⟩ := I.cell x c e
    exact absurd (Nat.lt_of_lt_of_le q.lt (by rw [z]; exact hb)) (Nat.lt_irrefl _)
  · exact absurd (Nat.lt_of_lt_of_le (Heap.lt_size (I.pin p hp).1) (by rw [z]; exact hb)) (Nat.lt_irrefl _)
structure Turn (P : Program) (w : World) (K : PySem.W.Frag) (tg : Expr) (J : It) (fp : List Addr) (it : Addr) (tn : Nat → Heap → Prop) : Prop where
  mem : it ∈ fp
  obj : ∀ i h, tn i h → ∀ b ∈ fp, ∃ o, h.get? b = some o ∧ ∀ v, o.data ≠ .cell v
  keep : ∀ i h h', tn i h → (∀ b ∈ fp, ∀ o, h.get? b = some o → h'.get? b = some o) → tn i h'
  item : ∀ (X : Cx), X.prog = P → X.w = w → X.K = K → X.calm = true → ∀ (i : Nat) (pins : List (Addr × Obj)) (s : Shared) (σ : St) (H : Hp) (E : Value → Shared → Prop), Inv X pins σ H s → (∀ b ∈ fp, FpOk X pins H b) → tn i s.heap → J.go i H →
    wpAny (model P w) X.A (pyNext (.ref it)) (fun r s1 => ∃ u, r = some u ∧
      wpAny (model P w) X.A (letOwnedTupleGo tg (.ref it) u) (fun _ s2 => ∃ x H', Inv X pins σ H' s2 ∧ RelV x u ∧ J.yld i H x H' ∧ tn (i + 1) s2.heap ∧ ∀ b ∈ fp, H' b = none) E s1) E s
  done : ∀ (X : Cx), X.prog = P → X.w = w → X.K = K → X.calm = true → ∀ (i : Nat) (pins : List (Addr × Obj)) (s : Shared) (σ : St) (H : Hp) (E : Value → Shared → Prop), Inv X pins σ H s → (∀ b ∈ fp, FpOk X pins H b) → tn i s.heap → J.stop i H →
    wpAny (model P w) X.A (pyNext (.ref it)) (fun r s1 => r = none ∧ Inv X pins σ H s1) E s
  self : ∀ (A : Around) (i : Nat) (s : Shared) (Q : Value → Shared → Prop) (E : Value → Shared → Prop), tn i s.heap → Q (.ref it) s → wpAny (model P w) A (pyIter (.ref it)) Q E s
abbrev TI := St → Hp → (It → Hp → Prop) → Prop
/-- an iterator has come -/
def PIE (X : Cx) (pins : List (Addr × Obj)) (σ : St) (tg : Expr) (R : It → Hp → Prop) (itv : Value) (s2 : Shared) : Prop :=
  ∃ (it : Addr) (fp : List Addr) (tn : Nat → Heap → Prop) (J : It) (H' : Hp), itv = .ref it ∧ Inv X pins σ H' s2 ∧ Turn X.prog X.w X.K tg J fp it tn ∧ tn 0 s2.heap ∧ (∀ b ∈ fp, FpOk X pins H' b) ∧ R J H'
def PI (X : Cx) (tg iter : Expr) (wi : TI) : Prop :=
  ∀ (pins : List (Addr × Obj)) (s : Shared) (σ : St) (H : Hp) (R : It → Hp → Prop), Inv X pins σ H s → wi σ H R →
    wpAny (model X.prog X.w) X.A (eval iter X.env) (fun v s1 => wpAny (model X.prog X.w) X.A (pyIter v) (PIE X pins σ tg R) X.xe s1) X.xe s
/-- the step ahead of the store is nothing for an iterator that keeps no tuple -/
theorem go_of {M : Model} {A : Around} {E : Value → Shared → Prop} {s : Shared} {tg : Expr} {it : Addr} {u : Value} {o : Obj} {n : String} {vs : Array Value} {Q : Unit → Shared → Prop} (ho : s.heap.get? it = some o) (hc : o.cls = .type n) (hd : o.data = .fields vs)
    (hn : ["enumerate", "zip", "dict_itemiterator", "dict_reverseitemiterator", "odict_iterator", "itertools.zip_longest", "itertools.pairwise"].contains n = false) (hQ : Q () s) : wpAny M A (letOwnedTupleGo tg (.ref it) u) Q E s := by
  unfold letOwnedTupleGo
  cases tg <;> first
    | exact wpAny_pure hQ
    | (cases u <;> first
        | exact wpAny_pure hQ
        | (refine wpAny_bind (wpAny_load ho ?_)
           rw [hc, hd]
           show wpAny M A (if (["enumerate", "zip", "dict_itemiterator", "dict_reverseitemiterator", "odict_iterator", "itertools.zip_longest", "itertools.pairwise"].contains n && vs[0]? == some (rawInt _)) = true then _ else _) Q E s
           rw [if_neg (by intro h; rw [hn, Bool.false_and] at h; cases h)]
           exact wpAny_pure hQ))
/-- the list at a, as it stands at each turn (a loop may append to it) -/
def Itl (K : PySem.W.Frag) (a : Addr) : It :=
  ⟨fun i H => ∃ xs x, SqL K H a xs ∧ xs[i]? = some x, fun i H x H' => H' = H ∧ ∀ xs, SqL K H a xs → xs[i]? = some x, fun i H => ∃ xs, SqL K H a xs ∧ xs.length ≤ i⟩
def Itt (K : PySem.W.Frag) (a : Addr) : It :=
  ⟨fun i H => ∃ xs x, SqT K H a xs ∧ xs[i]? = some x, fun i H x H' => H' = H ∧ ∀ xs, SqT K H a xs → xs[i]? = some x, fun i H => ∃ xs, SqT K H a xs ∧ xs.length ≤ i⟩
/-- lo, lo + 1, .. (n of them) -/
def Itr (lo : Int) (n : Nat) : It := ⟨fun i _ => i < n, fun i H x H' => H' = H ∧ x = .int (lo + i), fun i _ => n ≤ i⟩
theorem turn_list {P : Program} {w : World} {K : PySem.W.Frag} {tg : Expr} (a it : Addr) : Turn P w K tg (Itl K a) [it] it (fun i h => h.IsListIter it a i) where
  mem := by simp
  obj := fun i h st b hb => by
    have e : b = it := by simpa using hb
    subst e
    obtain ⟨o, e, c, d⟩ := st
    exact ⟨o, e, fun v z => by rw [d] at z; cases z⟩
  keep := fun i h h' st k => st.at fun o e => k it (by simp) o e
  item := by
    intro X hP hw hK hc i pins s σ H E I hf st hg
    subst hP hw hK
    obtain ⟨xs, x, hq, hx⟩ := hg
    obtain ⟨its, rv, p, hz⟩ := I.list hq
    obtain ⟨u, hu, ru⟩ := rv.get hx
    obtain ⟨f0, f1, f2, f3, f4, f5⟩ := hf it (by simp)
    refine wpAny_pyNext_list_item st p.isList (x := u) (by simpa using hu) fun h' st' sb => ?_
    have I1 : Inv X pins σ H { s with heap := h' } := I.turned (t' := s.toks) (fun b o hb e => (sb.2 b hb).trans e) f0 f1 f3 f4 f5
    obtain ⟨o, e, c, d⟩ := id st'
    exact ⟨u, rfl, go_of (s := { s with heap := h' }) e c d (by decide) ⟨x, H, I1, ru, ⟨rfl, fun ys hy => by rw [I.list_inj hy hq]; exact hx⟩, st', fun b hb => (hf b hb).1⟩⟩
  done := by
    intro X hP hw hK hc i pins s σ H E I hf st hg
    subst hP hw hK
    obtain ⟨xs, hq, hx⟩ := hg
    obtain ⟨its, rv, p, hz⟩ := I.list hq
    obtain ⟨f0, f1, f2, f3, f4, f5⟩ := hf it (by simp)
    have hl := rv.length
    exact wpAny_pyNext_list_end (I.ok.hd hc) st p.isList (by simp; omega) fun h' eb => ⟨rfl, I.turned (t' := s.toks) (fun b o hb e => eb b o hb e) f0 f1 f3 f4 f5⟩
  self := fun _ _ _ _ _ st h => wpAny_pyIter_listiter st h
theorem turn_tuple {P : Program} {w : World} {K : PySem.W.Frag} {tg : Expr} (a it : Addr) : Turn P w K tg (Itt K a) [it] it (fun i h => h.IsTupleIter it a i) where
  mem := by simp
  obj := fun i h st b hb => by
    have e : b = it := by simpa using hb
    subst e
    obtain ⟨o, e, c, d⟩ := st
    exact ⟨o, e, fun v z => by rw [d] at z; cases z⟩
  keep := fun i h h' st k => st.at fun o e => k it (by simp) o e
  item := by
    intro X hP hw hK hc i pins s σ H E I hf st hg
    subst hP hw hK
    obtain ⟨xs, x, hq, hx⟩ := hg
    obtain ⟨its, rv, p, hz⟩ := I.tuple hq
    obtain ⟨u, hu, ru⟩ := rv.get hx
    obtain ⟨f0, f1, f2, f3, f4, f5⟩ := hf it (by simp)
    refine wpAny_pyNext_tuple_item st (show s.heap.IsTuple a its.toArray from p) (x := u) (by simpa using hu) fun h' st' sb => ?_
    have I1 : Inv X pins σ H { s with heap := h' } := I.turned (t' := s.toks) (fun b o hb e => (sb.2 b hb).trans e) f0 f1 f3 f4 f5
    obtain ⟨o, e, c, d⟩ := id st'
    exact ⟨u, rfl, go_of (s := { s with heap := h' }) e c d (by decide) ⟨x, H, I1, ru, ⟨rfl, fun ys hy => by rw [I.tuple_inj hy hq]; exact hx⟩, st', fun b hb => (hf b hb).1⟩⟩
  done := by
    intro X hP hw hK hc i pins s σ H E I hf st hg
    subst hP hw hK
    obtain ⟨xs, hq, hx⟩ := hg
    obtain ⟨its, rv, p, hz⟩ := I.tuple hq
    obtain ⟨f0, f1, f2, f3, f4, f5⟩ := hf it (by simp)
    have hl := rv.length
    exact wpAny_pyNext_tuple_end (I.ok.hd hc) st (show s.heap.IsTuple a its.toArray from p) (by simp; omega) fun h' eb => ⟨rfl, I.turned (t' := s.toks) (fun b o hb e => eb b o hb e) f0 f1 f3 f4 f5⟩
  self := fun _ _ _ _ _ st h => wpAny_pyIter_tupleiter st h
theorem turn_range {P : Program} {w : World} {K : PySem.W.Frag} {tg : Expr} (it : Addr) (lo : Int) (n : Nat) : Turn P w K tg (Itr lo n) [it] it (fun i h => IsRangeIter h it (lo + (i : Nat) * 1) ((n : Int) - (i : Nat)) 1) where
  mem := by simp
  obj := fun i h st b hb => by
    have e : b = it := by simpa using hb
    subst e
    exact ⟨_, st, fun v z => by
      have z' : Data.fields _ = Data.cell v := z
      cases z'⟩
  keep := fun i h h' st k => k it (by simp) _ st
  item := by
    intro X hP hw hK hc i pins s σ H E I hf st hg
    subst hP hw hK
    obtain ⟨f0, f1, f2, f3, f4, f5⟩ := hf it (by simp)
    have W := Walks.range (prog := X.prog) (w := X.w) (I.ok.hd hc) it lo 1 n
    refine W.item i s _ _ hg st fun v h' tk hv st' kk => ?_
    obtain ⟨t, rfl⟩ := hv
    have I1 : Inv X pins σ H { s with heap := h', toks := tk } := I.turned (fun b o hb e => kk b o (by simpa using hb) e) f0 f1 f3 f4 f5
    refine ⟨_, rfl, go_of (s := { s with heap := h', toks := tk }) (n := "range_iterator") st' rfl rfl (by decide) ⟨.int (lo + i), H, I1, ⟨t, ?_⟩, ⟨rfl, rfl⟩, st', fun b hb => (hf b hb).1⟩⟩
    rw [Int.mul_one]
  done := by
    intro X hP hw hK hc i pins s σ H E I hf st hg
    subst hP hw hK
    obtain ⟨f0, f1, f2, f3, f4, f5⟩ := hf it (by simp)
    exact wpAny_pyNext_range_end (I.ok.hd hc) st (by have : n ≤ i := hg; omega) fun h' eb => ⟨rfl, I.turned (t' := s.toks) (fun b o hb e => eb b o hb e) f0 f1 f3 f4 f5⟩
  self := fun _ _ _ _ _ st h => wpAny_pyIter_rangeiter st h
end L2
namespace L2
open PySem PySem.Spec PyProof.Rows
section
variable {X : Cx} {tg : Expr}
def iList (K : PySem.W.Frag) (tl : TE) : TI := fun σ H R => tl σ H fun x H1 => ∃ a, x = .ref a ∧ (∃ xs, SqL K H1 a xs) ∧ R (Itl K a) H1
def iTup (K : PySem.W.Frag) (tl : TE) : TI := fun σ H R => tl σ H fun x H1 => ∃ a, x = .ref a ∧ (∃ xs, SqT K H1 a xs) ∧ R (Itt K a) H1
theorem pi_list {l : Expr} {tl : TE} (hl : PE X l tl) : PI X tg l (iList X.K tl) := by
  intro pins s σ H R I h
  refine thn (hl pins s σ H _ I h) fun v s1 ⟨x, H1, I1, r1, q1⟩ => ?_
  obtain ⟨a, e, ⟨xs, hq⟩, q⟩ := q1
  subst e
  cases r1
  obtain ⟨its, rv, p, hz⟩ := I1.list hq
  refine wpAny_pyIter_list p.isList ?_
  refine ⟨s1.heap.objs.size, [s1.heap.objs.size], _, _, H1, rfl, I1.kept (t' := s1.toks) fun b o e => Heap.get?_push_of_some _ e, turn_list a _, ⟨_, Heap.get?_push_size _ rfl, rfl, rfl⟩, fun b hb => ?_, q⟩
  have e : b = s1.heap.objs.size := by simpa using hb
  subst e
  exact I1.fpOk (Nat.le_refl _) (I1.hok.fresh (Nat.le_refl _))
theorem pi_tup {l : Expr} {tl : TE} (hl : PE X l tl) : PI X tg l (iTup X.K tl) := by
  intro pins s σ H R I h
  refine thn (hl pins s σ H _ I h) fun v s1 ⟨x, H1, I1, r1, q1⟩ => ?_
  obtain ⟨a, e, ⟨xs, hq⟩, q⟩ := q1
  subst e
  cases r1
  obtain ⟨its, rv, p, hz⟩ := I1.tuple hq
  refine wpAny_pyIter_tuple (show s1.heap.IsTuple a its.toArray from p) ?_
  refine ⟨s1.heap.objs.size, [s1.heap.objs.size], _, _, H1, rfl, I1.kept (t' := s1.toks) fun b o e => Heap.get?_push_of_some _ e, turn_tuple a _, ⟨_, Heap.get?_push_size _ rfl, rfl, rfl⟩, fun b hb => ?_, q⟩
  have e : b = s1.heap.objs.size := by simpa using hb
  subst e
  exact I1.fpOk (Nat.le_refl _) (I1.hok.fresh (Nat.le_refl _))
/-- a range object just made, walked -/
theorem range_it {pins : List (Addr × Obj)} {σ : St} {H : Hp} {s : Shared} {R : It → Hp → Prop} {E : Value → Shared → Prop} {lo hi : Int} {t u v : Tok} {tk : Nat} (I : Inv X pins σ H s) (h1 : -(2 ^ 62) ≤ lo) (h2 : lo < 2 ^ 62) (h3 : -(2 ^ 62) ≤ hi) (h4 : hi < 2 ^ 62)
    (q : R (Itr lo (hi - lo).toNat) H) : wpAny (model X.prog X.w) X.A (pyIter (.ref s.heap.objs.size)) (PIE X pins σ tg R) E { s with heap := s.heap.push { cls := .type "range", data := .fields #[.int lo t, .int hi u, .int 1 v] }, toks := tk } := by
  refine wpAny_pyIter_range (IsRange.new ..) (small_one h1 h2 h3 h4) ?_
  have I1 : Inv X pins σ H { s with heap := s.heap.push { cls := .type "range", data := .fields #[.int lo t, .int hi u, .int 1 v] }, toks := tk } := I.kept fun b o e => Heap.get?_push_of_some _ e
  refine ⟨(s.heap.push { cls := .type "range", data := .fields #[.int lo t, .int hi u, .int 1 v] }).objs.size, [(s.heap.push { cls := .type "range", data := .fields #[.int lo t, .int hi u, .int 1 v] }).objs.size], _, _, H, rfl,
    I1.kept (t' := tk) fun b o e => Heap.get?_push_of_some _ e, turn_range _ lo (hi - lo).toNat, ?_, fun b hb => ?_, q⟩
  · have e1 : lo + ((0 : Nat) : Int) * 1 = lo := by simp
    have e2 : (((hi - lo).toNat : Nat) : Int) - ((0 : Nat) : Int) = Builtin.Range.rangeSize lo hi 1 := by rw [rangeSize_one]; split <;> omega
    show IsRangeIter _ _ (lo + ((0 : Nat) : Int) * 1) ((((hi - lo).toNat : Nat) : Int) - ((0 : Nat) : Int)) 1
    rw [e1, e2]
    exact Heap.get?_push_size _ rfl
  · have e : b = (s.heap.push { cls := .type "range", data := .fields #[.int lo t, .int hi u, .int 1 v] }).objs.size := by simpa using hb
    subst e
    exact I1.fpOk (Nat.le_refl _) (I1.hok.fresh (Nat.le_refl _))
def iRng1 (ta : TA) : TI := fun σ H R => ta σ H fun vs H1 => ∃ j : Int, vs = [.int j] ∧ -(2 ^ 62) ≤ j ∧ j < 2 ^ 62 ∧ R (Itr 0 j.toNat) H1
def iRng2 (ta : TA) : TI := fun σ H R => ta σ H fun vs H1 => ∃ i j : Int, vs = [.int i, .int j] ∧ (-(2 ^ 62) ≤ i ∧ i < 2 ^ 62 ∧ -(2 ^ 62) ≤ j ∧ j < 2 ^ 62) ∧ R (Itr i (j - i).toNat) H1
theorem pi_range1 {a : Expr} {ta : TA} {p pos : Pos} (hg : Gl X "range") (hm : X.mg "range" = none) (ha : PA X [a] ta) (hs : starEach [a] X.env = [(false, eval a X.env)] := by rfl) : PI X tg (.Call (.Name "range" p) [a] [] pos) (iRng1 ta) := by
  intro pins s σ H R I h
  refine Call_ (ld_blt I hg hm boot_range (PyProof.Rows.callWith_type1 (thn (ha pos pins s σ H _ I h) fun us s1 ⟨vs, H1, I1, r1, q1⟩ => ?_) hs rfl))
  obtain ⟨j, e, q1, q2, q⟩ := q1
  subst e
  cases r1 with
  | cons r rr =>
    cases rr
    obtain ⟨t, rfl⟩ := r
    exact call_range_1 (range_it I1 (by omega) (by omega) q1 q2 (by simpa using q))
theorem pi_range2 {a b : Expr} {ta : TA} {p pos : Pos} (hg : Gl X "range") (hm : X.mg "range" = none) (ha : PA X [a, b] ta) (hs : starEach [a, b] X.env = [(false, eval a X.env), (false, eval b X.env)] := by rfl) (hs2 : starEach [b] X.env = [(false, eval b X.env)] := by rfl) :
    PI X tg (.Call (.Name "range" p) [a, b] [] pos) (iRng2 ta) := by
  intro pins s σ H R I h
  refine Call_ (ld_blt I hg hm boot_range (PyProof.Rows.callWith_type1 (thn (ha pos pins s σ H _ I h) fun us s1 ⟨vs, H1, I1, r1, q1⟩ => ?_) (by rw [hs, hs2]) (by rw [hs2]; rfl)))
  obtain ⟨i, j, e, ⟨q1, q2, q3, q4⟩, q⟩ := q1
  subst e
  cases r1 with
  | cons r rr =>
    cases rr with
    | cons r' rr =>
      cases rr
      obtain ⟨t, rfl⟩ := r
      obtain ⟨t', rfl⟩ := r'
      exact call_range_2 (range_it I1 q1 q2 q3 q4 q)
/-- W: the invariant by the turn and a measure; N: what the body is to reach -/
def tFor (wi : TI) (g : TG) (tb : TS) : TS := fun D σ H => wi σ H fun J H1 => ∃ W : Nat → Nat → St → Hp → Prop, (∃ m, W 0 m σ H1) ∧ ∀ i m σ H, W i m σ H →
  (J.stop i H ∧ D.nx σ H) ∨ (J.go i H ∧ ∃ N : St → Hp → Prop, (∀ σ' H', N σ' H' → ∃ m', m' < m ∧ W (i + 1) m' σ' H') ∧ ∀ x H', J.yld i H x H' → g x σ H' fun σ2 H2 => tb { D with nx := N, ct := N, bk := D.nx } σ2 H2)
/-- the records at fp as they stand -/
def pinsAt (fp : List Addr) (h : Heap) : List (Addr × Obj) := fp.filterMap fun b => (h.get? b).map fun o => (b, o)
theorem mem_pinsAt {fp : List Addr} {h : Heap} {b : Addr} {o : Obj} (hb : b ∈ fp) (e : h.get? b = some o) : (b, o) ∈ pinsAt fp h := List.mem_filterMap.mpr ⟨b, hb, by rw [e]; rfl⟩
theorem of_pinsAt {fp : List Addr} {h : Heap} {p : Addr × Obj} (hp : p ∈ pinsAt fp h) : p.1 ∈ fp ∧ h.get? p.1 = some p.2 := by
  obtain ⟨b, hb, e⟩ := List.mem_filterMap.mp hp
  cases q : h.get? b with
  | none => rw [q] at e; cases e
  | some o =>
    rw [q] at e
    have e' : (b, o) = p := Option.some.inj e
    subst e'
    exact ⟨hb, q⟩
theorem Inv.pinned {pins : List (Addr × Obj)} {σ : St} {H : Hp} {s : Shared} {fp : List Addr} (I : Inv X pins σ H s) (hf : ∀ b ∈ fp, FpOk X pins H b) (ho : ∀ b ∈ fp, ∃ o, s.heap.get? b = some o ∧ ∀ v, o.data ≠ .cell v) : Inv X (pins ++ pinsAt fp s.heap) σ H s :=
  I.pins_of fun p hp => (List.mem_append.mp hp).elim (fun z => I.pin p (List.mem_append_right _ z)) fun z => by
    obtain ⟨hb, e⟩ := of_pinsAt z
    obtain ⟨f0, f1, f2, _⟩ := hf p.1 hb
    obtain ⟨o, e', d⟩ := ho p.1 hb
    rw [e] at e'; cases e'
    exact ⟨e, f0, f1, f2, d⟩
theorem Inv.unpinned {pins pl : List (Addr × Obj)} {σ : St} {H : Hp} {s : Shared} (I : Inv X (pins ++ pl) σ H s) : Inv X pins σ H s := I.pins_of fun p hp => I.pin p (List.mem_append_right _ (List.mem_append_left _ hp))
theorem ps_for {iter : Expr} {body : List Stmt} {wi : TI} {g : TG} {tb : TS} {pos : Pos} (hp : PassesOwn (model X.prog X.w) X.A X.env X.xe) (hc : X.calm = true) (hi : PI X tg iter wi) (hg : PG X tg g) (hb : PSs X body tb)
    (hs : ∀ x, foldedSetIterable iter X.env x = pure x := by intro _; rfl) : PS X (.For tg iter body [] pos) (tFor wi g tb) := by
  intro pins s σ H D I h
  refine wpAny_For (thn (hi pins s σ H _ I h) fun v s1 h1 => thn h1 fun itv s2 h2 => ?_) hs
  obtain ⟨it, fp, tn, J, H2, e, I2, T, st2, f2, W, ⟨m0, w0⟩, turn⟩ := h2
  subst e
  -- what stays true of the iterator's objects through the loop
  have stat : ∀ {H' : Hp}, (∀ b ∈ fp, H' b = none) → ∀ b ∈ fp, FpOk X pins H' b := fun hn b hb => ⟨hn b hb, (f2 b hb).2⟩
  refine codeAny_forLoop_any (fun n s' => ∃ i σ' H', Inv X pins σ' H' s' ∧ tn i s'.heap ∧ (∀ b ∈ fp, H' b = none) ∧ W i n σ' H') ?_ m0 ⟨0, σ, H2, I2, st2, fun b hb => (f2 b hb).1, w0⟩
  rintro n s3 ⟨i, σ3, H3, I3, st3, fr3, w3⟩
  rcases turn i n σ3 H3 w3 with ⟨stop, qn⟩ | ⟨go, N, hN, step⟩
  · refine wpAny_passesOwn hp (thn (T.done X rfl rfl rfl hc i pins s3 σ3 H3 X.xe I3 (stat fr3) st3 stop) fun r s4 ⟨hr, I4⟩ => ?_)
    subst hr
    exact wpAny_execs_nil ⟨σ3, H3, I4, qn⟩
  · refine wpAny_passesOwn hp (thn (T.item X rfl rfl rfl hc i pins s3 σ3 H3 X.xe I3 (stat fr3) st3 go) fun r s4 ⟨u, hr, h4⟩ => ?_)
    subst hr
    refine wpAny_passesOwn hp (thn h4 fun _ s5 ⟨x, H5, I5, r5, y5, st5, fr5⟩ => ?_)
    have I5' := I5.pinned (stat fr5) (T.obj _ _ st5)
    refine wpAny_passesOwn hp (thn (hg _ s5 σ3 H5 x u _ I5' r5 (step x H5 y5)) fun _ s6 ⟨σ6, H6, I6, q6⟩ => ?_)
    refine wpAny_passesOwn hp (thn (hb _ s6 σ6 H6 _ I6 q6) fun f s7 q7 => ?_)
    have again : ∀ {σ7 : St} {H7 : Hp}, Inv X (pins ++ pinsAt fp s5.heap) σ7 H7 s7 → N σ7 H7 → ∃ m, m < n ∧ ∃ i σ' H', Inv X pins σ' H' s7 ∧ tn i s7.heap ∧ (∀ b ∈ fp, H' b = none) ∧ W i m σ' H' := fun {σ7 H7} I7 n7 => by
      obtain ⟨m', hm, w7⟩ := hN σ7 H7 n7
      refine ⟨m', hm, i + 1, σ7, H7, I7.unpinned, T.keep _ _ _ st5 fun b hb o e => (I7.pin (b, o) (List.mem_append_right _ (List.mem_append_right _ (mem_pinsAt hb e)))).1, fun b hb => ?_, w7⟩
      obtain ⟨o, e, d⟩ := T.obj _ _ st5 b hb
      exact (I7.pin (b, o) (List.mem_append_right _ (List.mem_append_right _ (mem_pinsAt hb e)))).2.1
    cases f with
    | next => obtain ⟨σ7, H7, I7, n7⟩ := q7; exact again I7 n7
    | cont => obtain ⟨σ7, H7, I7, n7⟩ := q7; exact again I7 n7
    | brk => obtain ⟨σ7, H7, I7, q7⟩ := q7; exact ⟨σ7, H7, I7.unpinned, q7⟩
    | ret v => obtain ⟨x7, σ7, H7, I7, r7, q7⟩ := q7; exact ⟨x7, σ7, H7, I7.unpinned, r7, q7⟩
end
/-- over a list that the body leaves as it is -/
theorem for_list {K : PySem.W.Frag} {a : Addr} {xs : List V} {g : TG} {tb : TS} {D : Ends} {σ : St} {H : Hp} (Pv : Nat → St → Hp → Prop) (h0 : Pv 0 σ H) (hl : ∀ i σ H, i ≤ xs.length → Pv i σ H → SqL K H a xs)
    (hs : ∀ i x σ H, xs[i]? = some x → Pv i σ H → g x σ H fun σ2 H2 => tb { D with nx := Pv (i + 1), ct := Pv (i + 1), bk := D.nx } σ2 H2) (hd : ∀ σ H, Pv xs.length σ H → D.nx σ H) :
    ∃ W : Nat → Nat → St → Hp → Prop, (∃ m, W 0 m σ H) ∧ ∀ i m σ H, W i m σ H →
      ((Itl K a).stop i H ∧ D.nx σ H) ∨ ((Itl K a).go i H ∧ ∃ N : St → Hp → Prop, (∀ σ' H', N σ' H' → ∃ m', m' < m ∧ W (i + 1) m' σ' H') ∧ ∀ x H', (Itl K a).yld i H x H' → g x σ H' fun σ2 H2 => tb { D with nx := N, ct := N, bk := D.nx } σ2 H2) := by
  refine ⟨fun i m σ H => m = xs.length - i ∧ i ≤ xs.length ∧ Pv i σ H, ⟨xs.length, by simp, Nat.zero_le _, h0⟩, ?_⟩
  rintro i m σ H ⟨rfl, hi, p⟩
  have q := hl i σ H hi p
  by_cases hlt : i < xs.length
  · refine .inr ⟨⟨xs, xs[i], q, by simp [hlt]⟩, Pv (i + 1), fun σ' H' p' => ⟨xs.length - (i + 1), by omega, rfl, hlt, p'⟩, fun x H' y => ?_⟩
    obtain ⟨e, y⟩ := y
    subst e
    exact hs i x σ _ (y xs q) p
  · have e : i = xs.length := by omega
    subst e
    exact .inl ⟨⟨xs, q, Nat.le_refl _⟩, hd σ H p⟩
theorem for_tup {K : PySem.W.Frag} {a : Addr} {xs : List V} {g : TG} {tb : TS} {D : Ends} {σ : St} {H : Hp} (Pv : Nat → St → Hp → Prop) (h0 : Pv 0 σ H) (hl : ∀ i σ H, i ≤ xs.length → Pv i σ H → SqT K H a xs)
    (hs : ∀ i x σ H, xs[i]? = some x → Pv i σ H → g x σ H fun σ2 H2 => tb { D with nx := Pv (i + 1), ct := Pv (i + 1), bk := D.nx } σ2 H2) (hd : ∀ σ H, Pv xs.length σ H → D.nx σ H) :
    ∃ W : Nat → Nat → St → Hp → Prop, (∃ m, W 0 m σ H) ∧ ∀ i m σ H, W i m σ H →
      ((Itt K a).stop i H ∧ D.nx σ H) ∨ ((Itt K a).go i H ∧ ∃ N : St → Hp → Prop, (∀ σ' H', N σ' H' → ∃ m', m' < m ∧ W (i + 1) m' σ' H') ∧ ∀ x H', (Itt K a).yld i H x H' → g x σ H' fun σ2 H2 => tb { D with nx := N, ct := N, bk := D.nx } σ2 H2) := by
  refine ⟨fun i m σ H => m = xs.length - i ∧ i ≤ xs.length ∧ Pv i σ H, ⟨xs.length, by simp, Nat.zero_le _, h0⟩, ?_⟩
  rintro i m σ H ⟨rfl, hi, p⟩
  have q := hl i σ H hi p
  by_cases hlt : i < xs.length
  · refine .inr ⟨⟨xs, xs[i], q, by simp [hlt]⟩, Pv (i + 1), fun σ' H' p' => ⟨xs.length - (i + 1), by omega, rfl, hlt, p'⟩, fun x H' y => ?_⟩
    obtain ⟨e, y⟩ := y
    subst e
    exact hs i x σ _ (y xs q) p
  · have e : i = xs.length := by omega
    subst e
    exact .inl ⟨⟨xs, q, Nat.le_refl _⟩, hd σ H p⟩
theorem for_range {lo : Int} {n : Nat} {g : TG} {tb : TS} {D : Ends} {σ : St} {H : Hp} (Pv : Nat → St → Hp → Prop) (h0 : Pv 0 σ H)
    (hs : ∀ i σ H, i < n → Pv i σ H → g (.int (lo + i)) σ H fun σ2 H2 => tb { D with nx := Pv (i + 1), ct := Pv (i + 1), bk := D.nx } σ2 H2) (hd : ∀ σ H, Pv n σ H → D.nx σ H) :
    ∃ W : Nat → Nat → St → Hp → Prop, (∃ m, W 0 m σ H) ∧ ∀ i m σ H, W i m σ H →
      ((Itr lo n).stop i H ∧ D.nx σ H) ∨ ((Itr lo n).go i H ∧ ∃ N : St → Hp → Prop, (∀ σ' H', N σ' H' → ∃ m', m' < m ∧ W (i + 1) m' σ' H') ∧ ∀ x H', (Itr lo n).yld i H x H' → g x σ H' fun σ2 H2 => tb { D with nx := N, ct := N, bk := D.nx } σ2 H2) := by
  refine ⟨fun i m σ H => m = n - i ∧ i ≤ n ∧ Pv i σ H, ⟨n, by simp, Nat.zero_le _, h0⟩, ?_⟩
  rintro i m σ H ⟨rfl, hi, p⟩
  by_cases hlt : i < n
  · refine .inr ⟨hlt, Pv (i + 1), fun σ' H' p' => ⟨n - (i + 1), by omega, rfl, hlt, p'⟩, fun x H' y => ?_⟩
    obtain ⟨e, y⟩ := y
    subst e y
    exact hs i σ _ hlt p
  · have e : i = n := by omega
    subst e
    exact .inl ⟨Nat.le_refl _, hd σ H p⟩
end L2
namespace L2
open PySem PySem.Spec PyProof.Rows
abbrev R2 := V → V → Hp → VK → Prop
/-- a two-place operation on values: f is binaryOp op, inplaceOp op or compareOp op -/
def OpR (X : Cx) (f : Value → Value → Sem Value) (r : R2) : Prop :=
  ∀ (pins : List (Addr × Obj)) (s : Shared) (σ : St) (H : Hp) (x y : V) (v u : Value) (Q : VK), Inv X pins σ H s → RelV x v → RelV y u → r x y H Q →
    wpAny (model X.prog X.w) X.A (f v u) (EP X pins σ Q) X.xe s
/-- a one-place operation -/
def UnR (X : Cx) (f : Value → Sem Value) (r : V → Hp → VK → Prop) : Prop :=
  ∀ (pins : List (Addr × Obj)) (s : Shared) (σ : St) (H : Hp) (x : V) (v : Value) (Q : VK), Inv X pins σ H s → RelV x v → r x H Q →
    wpAny (model X.prog X.w) X.A (f v) (EP X pins σ Q) X.xe s
/-- a call of a value that is known (a builtin, a type) with values -/
def CallR (X : Cx) (f : Value) (r : List V → Hp → VK → Prop) : Prop :=
  ∀ (pins : List (Addr × Obj)) (s : Shared) (σ : St) (H : Hp) (xs : List V) (us : List Value) (Q : VK), Inv X pins σ H s → Vals xs us → r xs H Q →
    wpAny (model X.prog X.w) X.A (call f us) (EP X pins σ Q) X.xe s
/-- a value's truth -/
def TruR (X : Cx) (r : V → Hp → (Bool → Hp → Prop) → Prop) : Prop :=
  ∀ (pins : List (Addr × Obj)) (s : Shared) (σ : St) (H : Hp) (x : V) (v : Value) (Q : Bool → Hp → Prop), Inv X pins σ H s → RelV x v → r x H Q →
    wpAny (model X.prog X.w) X.A (truthy v) (TP X pins σ Q) X.xe s
def tOp (r : R2) (ta tb : TE) : TE := fun σ H Q => ta σ H fun x H1 => tb σ H1 fun y H2 => r x y H2 Q
def tUn (r : V → Hp → VK → Prop) (ta : TE) : TE := fun σ H Q => ta σ H fun x H1 => r x H1 Q
/-- ints in, under C, and a value out -/
def rI (C : Int → Int → Prop) (g : Int → Int → V) : R2 := fun x y H Q => ∃ i j, x = .int i ∧ y = .int j ∧ C i j ∧ Q (g i j) H
def rI0 (g : Int → Int → V) : R2 := fun x y H Q => ∃ i j, x = .int i ∧ y = .int j ∧ Q (g i j) H
def rU (g : Int → V) : V → Hp → VK → Prop := fun x H Q => ∃ i, x = .int i ∧ Q (g i) H
section
variable {X : Cx} {a b c : Expr} {ta tb tc : TE} {pos : Pos}
theorem binT (ha : PE X a ta) (hb : PE X b tb) {pins : List (Addr × Obj)} {s : Shared} {σ : St} {H : Hp} {R : V → V → Hp → Prop} (I : Inv X pins σ H s)
    (h : ta σ H fun x H1 => tb σ H1 fun y H2 => R x y H2) {Q : Value → Shared → Prop} {f : Value → Value → Sem Value}
    (hf : ∀ v u s2 x y H2, Inv X pins σ H2 s2 → RelV x v → RelV y u → R x y H2 → wpAny (model X.prog X.w) X.A (f v u) Q X.xe s2) :
    wpAny (model X.prog X.w) X.A (eval a X.env) (fun v s₁ => wpAny (model X.prog X.w) X.A (eval b X.env) (fun u s₂ => wpAny (model X.prog X.w) X.A (f v u) Q X.xe s₂) X.xe s₁) X.xe s := by
  refine thn (ha pins s σ H _ I h) fun v s1 ⟨x, H1, I1, r1, q1⟩ => ?_
  refine thn (hb pins s1 σ H1 _ I1 q1) fun u s2 ⟨y, H2, I2, r2, q2⟩ => ?_
  exact hf v u s2 x y H2 I2 r1 r2 q2
theorem pe_op {op : Operator} {r : R2} (ho : OpR X (binaryOp op) r) (ha : PE X a ta) (hb : PE X b tb) : PE X (.BinOp a op b pos) (tOp r ta tb) := by
  intro pins s σ H Q I h
  exact wpAny_BinOp (binT ha hb I h fun v u s2 x y H2 I2 rx ry q => ho pins s2 σ H2 x y v u Q I2 rx ry q)
theorem pe_un {op : UnaryOp} {r : V → Hp → VK → Prop} (ho : UnR X (unaryOp op) r) (ha : PE X a ta) : PE X (.UnaryOp op a pos) (tUn r ta) := by
  intro pins s σ H Q I h
  exact UnaryOp_ (thn (ha pins s σ H _ I h) fun v s1 ⟨x, H1, I1, r1, q1⟩ => ho pins s1 σ H1 x v Q I1 r1 q1)
theorem opI {f : Value → Value → Sem Value} {C : Int → Int → Prop} {g : Int → Int → Int}
    (rule : ∀ (i j : Int) (t u : Tok) (s : Shared) (Q : Value → Shared → Prop) (E : Value → Shared → Prop), C i j → Q (.int (g i j) s.toks) { s with toks := s.toks + 1 } → wpAny (model X.prog X.w) X.A (f (.int i t) (.int j u)) Q E s) :
    OpR X f (rI C fun i j => .int (g i j)) := by
  intro pins s σ H x y v u Q I rx ry h
  obtain ⟨i, j, rfl, rfl, hc, q⟩ := h
  obtain ⟨t, rfl⟩ := rx
  obtain ⟨t', rfl⟩ := ry
  exact rule i j t t' s _ _ hc ⟨.int (g i j), H, I.tok _, ⟨_, rfl⟩, q⟩
theorem opI0 {f : Value → Value → Sem Value} {g : Int → Int → Int}
    (rule : ∀ (i j : Int) (t u : Tok) (s : Shared) (Q : Value → Shared → Prop) (E : Value → Shared → Prop), Q (.int (g i j) s.toks) { s with toks := s.toks + 1 } → wpAny (model X.prog X.w) X.A (f (.int i t) (.int j u)) Q E s) :
    OpR X f (rI0 fun i j => .int (g i j)) := by
  intro pins s σ H x y v u Q I rx ry h
  obtain ⟨i, j, rfl, rfl, q⟩ := h
  obtain ⟨t, rfl⟩ := rx
  obtain ⟨t', rfl⟩ := ry
  exact rule i j t t' s _ _ ⟨.int (g i j), H, I.tok _, ⟨_, rfl⟩, q⟩
theorem opB0 {f : Value → Value → Sem Value} {g : Int → Int → Bool}
    (rule : ∀ (i j : Int) (t u : Tok) (s : Shared) (Q : Value → Shared → Prop) (E : Value → Shared → Prop), Q (.bool (g i j)) s → wpAny (model X.prog X.w) X.A (f (.int i t) (.int j u)) Q E s) :
    OpR X f (rI0 fun i j => .bl (g i j)) := by
  intro pins s σ H x y v u Q I rx ry h
  obtain ⟨i, j, rfl, rfl, q⟩ := h
  obtain ⟨t, rfl⟩ := rx
  obtain ⟨t', rfl⟩ := ry
  exact rule i j t t' s _ _ ⟨.bl (g i j), H, I, rfl, q⟩
def CDiv (i j : Int) : Prop := 0 < j ∧ j < 1073741824
def CDivN (i j : Int) : Prop := j ≠ 0 ∧ j.natAbs < 1073741824
def CPow (i j : Int) : Prop := 0 ≤ j ∧ j ≤ 1000000 ∧ i.natAbs < 2 ^ 64
def CMul (i j : Int) : Prop := (-(2 ^ 64) < i ∧ i < 2 ^ 64) ∨ (-(2 ^ 64) < j ∧ j < 2 ^ 64)
theorem CMul.ok {i j : Int} (h : CMul i j) : IntMulOk i j := by
  rcases h with ⟨h1, h2⟩ | ⟨h1, h2⟩
  · exact .of_left (intBits_le_64 h1 h2)
  · exact .of_right (intBits_le_64 h1 h2)
theorem op_add : OpR X (binaryOp .Add) (rI0 fun i j => .int (i + j)) := opI0 fun _ _ _ _ _ _ _ q => add_int q
theorem op_sub : OpR X (binaryOp .Sub) (rI0 fun i j => .int (i - j)) := opI0 fun _ _ _ _ _ _ _ q => sub_int q
theorem op_mul : OpR X (binaryOp .Mult) (rI CMul fun i j => .int (i * j)) := opI fun _ _ _ _ _ _ _ hc q => mul_int q hc.ok
/-- // by a positive divisor -/
theorem op_fdiv : OpR X (binaryOp .FloorDiv) (rI CDiv fun i j => .int (i / j)) := opI fun i j _ _ _ _ _ hc q => by
  have h1 : (0 : Int) < j := hc.1
  have h2 : j < 1073741824 := hc.2
  exact floordiv_int (by omega) (by rw [Int.fdiv_eq_ediv_of_nonneg i (by omega)]; exact q) (.inl (PyProof.noPylong_small (by omega)))
/-- % by a positive divisor of any size -/
theorem op_mod : OpR X (binaryOp .Mod) (rI (fun _ j => 0 < j) fun i j => .int (i % j)) := opI fun i j _ _ _ _ _ hc q => by
  have h1 : (0 : Int) < j := hc
  exact mod_int' (by omega) (by rw [Int.fmod_eq_emod_of_nonneg i (by omega)]; exact q)
theorem op_pow : OpR X (binaryOp .Pow) (rI CPow fun i j => .int (i ^ j.toNat)) := opI fun _ _ _ _ _ _ _ hc q => pow_int_small hc.1 hc.2.1 hc.2.2 q
theorem unI {f : Value → Sem Value} {g : Int → Int}
    (rule : ∀ (i : Int) (t : Tok) (s : Shared) (Q : Value → Shared → Prop) (E : Value → Shared → Prop), Q (.int (g i) s.toks) { s with toks := s.toks + 1 } → wpAny (model X.prog X.w) X.A (f (.int i t)) Q E s) :
    UnR X f (rU fun i => .int (g i)) := by
  intro pins s σ H x v Q I rx h
  obtain ⟨i, rfl, q⟩ := h
  obtain ⟨t, rfl⟩ := rx
  exact rule i t s _ _ ⟨.int (g i), H, I.tok _, ⟨_, rfl⟩, q⟩
theorem un_neg : UnR X (unaryOp .USub) (rU fun i => .int (-i)) := unI fun _ _ _ _ _ q => neg_int q
end
/-- the scalars that == tells apart as data does -/
def scal : V → V → Bool
  | .non, .non => true | .non, .int _ => true | .int _, .non => true | .non, .bl _ => true | .bl _, .non => true | .non, .str _ => true | .str _, .non => true
  | .int _, .int _ => true | .bl _, .bl _ => true | .str _, .str _ => true | .byt _, .byt _ => true
  | .int _, .str _ => true | .str _, .int _ => true | .bl _, .str _ => true | .str _, .bl _ => true
  | _, _ => false
def rEq : R2 := fun x y H Q => scal x y = true ∧ Q (.bl (decide (x = y))) H
def rNe : R2 := fun x y H Q => scal x y = true ∧ Q (.bl (!decide (x = y))) H
theorem dec_int {i j : Int} : decide (V.int i = V.int j) = (i == j) := by
  rw [Bool.eq_iff_iff]
  simp
theorem dec_bl {i j : Bool} : decide (V.bl i = V.bl j) = (i == j) := by
  rw [Bool.eq_iff_iff]
  simp
theorem dec_str {i j : Str} : decide (V.str i = V.str j) = (i == j) := by
  rw [Bool.eq_iff_iff]
  simp
theorem dec_byt {i j : Array UInt8} : decide (V.byt i = V.byt j) = (i.toList == j.toList) := by
  rw [Bool.eq_iff_iff]
  cases i
  cases j
  simp
section
variable {X : Cx} {a b c : Expr} {ta tb tc : TE} {pos : Pos}
theorem fin_bl {pins : List (Addr × Obj)} {σ : St} {H : Hp} {s : Shared} {Q : VK} {k k' : Bool} (I : Inv X pins σ H s) (q : Q (.bl k) H) (e : k = k') : EP X pins σ Q (.bool k') s := by
  subst e
  exact ⟨.bl k, H, I, rfl, q⟩
theorem op_eq : OpR X (compareOp .Eq) rEq := by
  intro pins s σ H x y v u Q I rx ry h
  obtain ⟨hs, q⟩ := h
  cases x with
  | non =>
    cases rx
    cases y with
    | non => cases ry; exact PySem.EqNone.eq_none_none (fin_bl I q (by simp))
    | bl j => cases ry; exact PySem.EqNone.eq_none_bool (fin_bl I q (by simp))
    | int j => obtain ⟨t', rfl⟩ := ry; exact PySem.EqNone.eq_none_int (fin_bl I q (by simp))
    | str j => obtain ⟨t', rfl⟩ := ry; exact PySem.EqNone.eq_none_str (fin_bl I q (by simp))
    | _ => exact absurd (show false = true from hs) Bool.false_ne_true
  | bl i =>
    cases rx
    cases y with
    | non => cases ry; exact PySem.EqNone.eq_bool_none (fin_bl I q (by simp))
    | bl j => cases ry; exact eq_bool (fin_bl I q dec_bl)
    | str j => obtain ⟨t', rfl⟩ := ry; exact PySem.EqMixed.eq_bool_str (fin_bl I q (by simp))
    | _ => exact absurd (show false = true from hs) Bool.false_ne_true
  | int i =>
    obtain ⟨t, rfl⟩ := rx
    cases y with
    | non => cases ry; exact PySem.EqNone.eq_int_none (fin_bl I q (by simp))
    | int j => obtain ⟨t', rfl⟩ := ry; exact eq_int (fin_bl I q dec_int)
    | str j => obtain ⟨t', rfl⟩ := ry; exact PySem.EqMixed.eq_int_str (fin_bl I q (by simp))
    | _ => exact absurd (show false = true from hs) Bool.false_ne_true
  | str i =>
    obtain ⟨t, rfl⟩ := rx
    cases y with
    | non => cases ry; exact PySem.EqNone.eq_str_none (fin_bl I q (by simp))
    | bl j => cases ry; exact PySem.EqMixed.eq_str_bool (fin_bl I q (by simp))
    | int j => obtain ⟨t', rfl⟩ := ry; exact PySem.EqMixed.eq_str_int (fin_bl I q (by simp))
    | str j => obtain ⟨t', rfl⟩ := ry; exact eq_str (fin_bl I q dec_str)
    | _ => exact absurd (show false = true from hs) Bool.false_ne_true
  | byt i =>
    obtain ⟨t, rfl⟩ := rx
    cases y with
    | byt j => obtain ⟨t', rfl⟩ := ry; exact PySem.W.eq_bytes (fin_bl I q dec_byt)
    | _ => exact absurd (show false = true from hs) Bool.false_ne_true
  | _ => cases y <;> exact absurd (show false = true from hs) Bool.false_ne_true
theorem op_ne : OpR X (compareOp .NotEq) rNe := by
  intro pins s σ H x y v u Q I rx ry h
  obtain ⟨hs, q⟩ := h
  cases x with
  | non =>
    cases rx
    cases y with
    | non => cases ry; exact PySem.EqNone.ne_none_none (fin_bl I q (by simp))
    | bl j => cases ry; exact PySem.EqNone.ne_none_bool (fin_bl I q (by simp))
    | int j => obtain ⟨t', rfl⟩ := ry; exact PySem.EqNone.ne_none_int (fin_bl I q (by simp))
    | str j => obtain ⟨t', rfl⟩ := ry; exact PySem.EqNone.ne_none_str (fin_bl I q (by simp))
    | _ => exact absurd (show false = true from hs) Bool.false_ne_true
  | bl i =>
    cases rx
    cases y with
    | non => cases ry; exact PySem.EqNone.ne_bool_none (fin_bl I q (by simp))
    | bl j => cases ry; exact ne_bool (fin_bl I q (congrArg not dec_bl))
    | str j => obtain ⟨t', rfl⟩ := ry; exact PySem.EqMixed.ne_bool_str (fin_bl I q (by simp))
    | _ => exact absurd (show false = true from hs) Bool.false_ne_true
  | int i =>
    obtain ⟨t, rfl⟩ := rx
    cases y with
    | non => cases ry; exact PySem.EqNone.ne_int_none (fin_bl I q (by simp))
    | int j => obtain ⟨t', rfl⟩ := ry; exact ne_int (fin_bl I q (congrArg not dec_int))
    | str j => obtain ⟨t', rfl⟩ := ry; exact PySem.EqMixed.ne_int_str (fin_bl I q (by simp))
    | _ => exact absurd (show false = true from hs) Bool.false_ne_true
  | str i =>
    obtain ⟨t, rfl⟩ := rx
    cases y with
    | non => cases ry; exact PySem.EqNone.ne_str_none (fin_bl I q (by simp))
    | bl j => cases ry; exact PySem.EqMixed.ne_str_bool (fin_bl I q (by simp))
    | int j => obtain ⟨t', rfl⟩ := ry; exact PySem.EqMixed.ne_str_int (fin_bl I q (by simp))
    | str j => obtain ⟨t', rfl⟩ := ry; exact ne_str (fin_bl I q (congrArg not dec_str))
    | _ => exact absurd (show false = true from hs) Bool.false_ne_true
  | byt i =>
    obtain ⟨t, rfl⟩ := rx
    cases y with
    | byt j => obtain ⟨t', rfl⟩ := ry; exact PySem.W.ne_bytes (fin_bl I q (congrArg not dec_byt))
    | _ => exact absurd (show false = true from hs) Bool.false_ne_true
  | _ => cases y <;> exact absurd (show false = true from hs) Bool.false_ne_true
theorem op_lt : OpR X (compareOp .Lt) (rI0 fun i j => .bl (decide (i < j))) := opB0 fun _ _ _ _ _ _ _ q => lt_int q
theorem op_le : OpR X (compareOp .LtE) (rI0 fun i j => .bl (decide (i ≤ j))) := opB0 fun _ _ _ _ _ _ _ q => le_int q
theorem op_gt : OpR X (compareOp .Gt) (rI0 fun i j => .bl (decide (j < i))) := opB0 fun _ _ _ _ _ _ _ q => gt_int q
theorem op_ge : OpR X (compareOp .GtE) (rI0 fun i j => .bl (decide (j ≤ i))) := opB0 fun _ _ _ _ _ _ _ q => ge_int q
/-- is None, is not None: the right side a value none -/
theorem op_isN : OpR X (compareOp .Is) (fun x y H Q => y = .non ∧ Q (.bl (decide (x = .non))) H) := by
  intro pins s σ H x y v u Q I rx ry h
  obtain ⟨rfl, q⟩ := h
  cases ry
  refine is_none_gen (fin_bl I q ?_)
  cases x <;> first
    | (cases rx; rfl)
    | (obtain ⟨t, rfl⟩ := rx; rfl)
theorem op_notN : OpR X (compareOp .IsNot) (fun x y H Q => y = .non ∧ Q (.bl (!decide (x = .non))) H) := by
  intro pins s σ H x y v u Q I rx ry h
  obtain ⟨rfl, q⟩ := h
  cases ry
  refine isnot_none_gen (fin_bl I q ?_)
  cases x <;> first
    | (cases rx; rfl)
    | (obtain ⟨t, rfl⟩ := rx; rfl)
/-- is, is not of two objects that are tracked lists or instances -/
def isObj : HO → Bool
  | .lst _ => true
  | .ins _ _ _ => true
  | _ => false
/-- two rules for one operation: by cases -/
theorem OpR.or {f : Value → Value → Sem Value} {r r' : R2} (h : OpR X f r) (h' : OpR X f r') : OpR X f (fun x y H Q => r x y H Q ∨ r' x y H Q) := by
  intro pins s σ H x y v u Q I rx ry q
  rcases q with q | q
  · exact h pins s σ H x y v u Q I rx ry q
  · exact h' pins s σ H x y v u Q I rx ry q
theorem nomark (b : Expr) {op : CmpOp} (h : op ≠ .In := by decide) (h2 : op ≠ .NotIn := by decide) : behindInMarks op b = false := by
  have e1 : (op == CmpOp.In) = false := by cases op <;> first | rfl | exact absurd rfl h
  have e2 : (op == CmpOp.NotIn) = false := by cases op <;> first | rfl | exact absurd rfl h2
  cases b <;> simp [behindInMarks, e1, e2]
/-- a comparison as a value; hm: nomark b, or (for in, not in) by with_unfolding_all rfl -/
theorem pe_cmpR {op : CmpOp} {r : R2} (ho : OpR X (compareOp op) r) (ha : PE X a ta) (hb : PE X b tb) (hm : behindInMarks op b = false) : PE X (.Compare a [op] [b] pos) (tOp r ta tb) := by
  intro pins s σ H Q I h
  exact wpAny_Compare1 (binT ha hb I h fun v u s2 x y H2 I2 rx ry q => ho pins s2 σ H2 x y v u Q I2 rx ry q) hm
/-- a reading of a value as a test -/
def tTest (t : TE) : TT := fun σ H Q => t σ H fun x H' => ∃ k, x = .bl k ∧ Q k H'
theorem pt_cmpR {op : CmpOp} {r : R2} (ho : OpR X (compareOp op) r) (ha : PE X a ta) (hb : PE X b tb) (hm : behindInMarks op b = false) : PT X (.Compare a [op] [b] pos) (tTest (tOp r ta tb)) := by
  intro pins s σ H Q I h
  refine wpAny_isTrue_Compare1 (thn (ha pins s σ H _ I h) fun v s1 ⟨x, H1, I1, r1, q1⟩ => thn (hb pins s1 σ H1 _ I1 q1) fun u s2 ⟨y, H2, I2, r2, q2⟩ =>
    thn (ho pins s2 σ H2 x y v u _ I2 r1 r2 q2) fun c s3 ⟨z, H3, I3, r3, k, e, q3⟩ => ?_) hm
  subst e
  cases r3
  exact wpAny_truthy_bool ⟨H3, I3, q3⟩
/-- a op1 b op2 c -/
def tChain (r r' : R2) (ta tb tc : TE) : TE := fun σ H Q => ta σ H fun x H1 => tb σ H1 fun y H2 => r x y H2 fun z H3 => ∃ k, z = .bl k ∧
  (if k = true then tc σ H3 fun w' H4 => r' y w' H4 Q else Q (.bl false) H3)
theorem pe_chain {op op' : CmpOp} {r r' : R2} (ho : OpR X (compareOp op) r) (ho' : OpR X (compareOp op') r') (ha : PE X a ta) (hb : PE X b tb) (hc : PE X c tc)
    (hm : lastMarks [op, op'] [b, c] = false := by with_unfolding_all rfl) : PE X (.Compare a [op, op'] [b, c] pos) (tChain r r' ta tb tc) := by
  intro pins s σ H Q I h
  refine Compare_chain (thn (ha pins s σ H _ I h) fun v s1 ⟨x, H1, I1, r1, q1⟩ => chain_link (thn (hb pins s1 σ H1 _ I1 q1) fun u s2 ⟨y, H2, I2, r2, q2⟩ =>
    thn (ho pins s2 σ H2 x y v u _ I2 r1 r2 q2) fun d s3 ⟨z, H3, I3, r3, k, e, q3⟩ => ?_)) hm
  subst e
  cases r3
  refine wpAny_truthy_bool ?_
  cases k with
  | false => exact ite_ff ⟨.bl false, H3, I3, rfl, q3⟩
  | true => exact ite_tt (chain_last (thn (hc pins s3 σ H3 _ I3 q3) fun w' s4 ⟨z', H4, I4, r4, q4⟩ => ho' pins s4 σ H4 y z' u w' Q I4 r2 r4 q4))
/-- a value's truth by the abstract heap -/
def TruV (K : PySem.W.Frag) (x : V) (H : Hp) (k : Bool) : Prop :=
  match x with
  | .non => k = false
  | .bl b => k = b
  | .int i => k = (i != 0)
  | .str y => y.length ≤ sizeLine ∧ k = ((y.length : Int) != 0)
  | .byt y => y.size ≤ sizeLine ∧ k = ((y.size : Int) != 0)
  | .ref p => (∃ xs, SqL K H p xs ∧ k = !xs.isEmpty) ∨ (∃ xs, SqT K H p xs ∧ k = !xs.isEmpty) ∨ ∃ kvs, H p = some (.dK kvs) ∧ k = !kvs.isEmpty
  | _ => False
theorem isEmpty_kv {κ : Type} {kvs : List (κ × V)} {vs : List (κ × Value)} (r : KV kvs vs) : (!vs.isEmpty) = !kvs.isEmpty := by
  cases r <;> rfl
theorem isEmpty_of {xs : List V} {its : List Value} (r : Vals xs its) : (!its.toArray.isEmpty) = !xs.isEmpty := by
  cases r <;> simp
theorem line63 : (sizeLine : Nat) < 2 ^ 63 := by rw [sizeLine_eq]; decide
theorem tru_ok : TruR X (fun x H Q => ∃ k, TruV X.K x H k ∧ Q k H) := by
  intro pins s σ H x v Q I rx h
  obtain ⟨k, e, q⟩ := h
  have hl := line63
  have hs : sizeLine = 16777216 := sizeLine_eq
  cases x with
  | non =>
    cases rx
    have e' : k = false := e
    subst e'
    exact truthy_none ⟨H, I, q⟩
  | bl b =>
    cases rx
    have e' : k = b := e
    subst e'
    exact wpAny_truthy_bool ⟨H, I, q⟩
  | int i =>
    obtain ⟨t, rfl⟩ := rx
    have e' : k = (i != 0) := e
    subst e'
    exact PySem.P.truthy_int ⟨H, I, q⟩
  | str y =>
    obtain ⟨t, rfl⟩ := rx
    obtain ⟨hy, e'⟩ : y.length ≤ sizeLine ∧ k = ((y.length : Int) != 0) := e
    subst e'
    exact PySem.P.truthy_str (by omega) ⟨H, I.tok _, q⟩
  | byt y =>
    obtain ⟨t, rfl⟩ := rx
    obtain ⟨hy, e'⟩ : y.size ≤ sizeLine ∧ k = ((y.size : Int) != 0) := e
    subst e'
    exact PySem.W.truthy_bytes (by omega) ⟨H, I.tok _, q⟩
  | ref p =>
    cases rx
    have e' : (∃ xs, SqL X.K H p xs ∧ k = !xs.isEmpty) ∨ (∃ xs, SqT X.K H p xs ∧ k = !xs.isEmpty) ∨ ∃ kvs, H p = some (.dK kvs) ∧ k = !kvs.isEmpty := e
    rcases e' with ⟨xs, hx, e'⟩ | ⟨xs, hx, e'⟩ | ⟨kvs, hx, e'⟩
    · subst e'
      obtain ⟨its, r, pl, hz⟩ := I.list hx
      have hlen := r.length
      exact wpAny_truthy_list pl.isList (by simp only [List.size_toArray]; omega) ⟨H, I.tok _, by rw [isEmpty_of r]; exact q⟩
    · subst e'
      obtain ⟨its, r, pl, hz⟩ := I.tuple hx
      have hlen := r.length
      exact truthy_tuple pl (by simp only [List.size_toArray]; omega) ⟨H, I.tok _, by rw [isEmpty_of r]; exact q⟩
    · subst e'
      obtain ⟨hz, hS, vs, r, m⟩ : kvs.length ≤ sizeLine ∧ (p == sysModules) = false ∧ ∃ vs, KV kvs vs ∧ s.heap.DictOf (mixKind X.prog X.w) p vs := I.hok p _ hx
      have hlen : kvs.length = vs.length := Paired.length r
      exact wpAny_truthy_dict hS m (by omega) ⟨H, I.tok _, by rw [isEmpty_kv r]; exact q⟩
  | _ => exact (show False from e).elim
/-- any expression whose test is its value's truth (a name, a call, a subscript, a field ..: he by fun _ => rfl) -/
theorem pt_truth (ha : PE X a ta) (he : ∀ whole, isTrue a X.env whole = (do let v ← whole; standAt a.pos; holding [v] (truthy v))) :
    PT X a (fun σ H Q => ta σ H fun x H' => ∃ k, TruV X.K x H' k ∧ Q k H') := by
  intro pins s σ H Q I h
  exact isTrue_plain (thn (ha pins s σ H _ I h) fun v s1 ⟨x, H1, I1, r1, q1⟩ => tru_ok pins s1 σ H1 x v Q I1 r1 q1) (he _)
theorem op_add_str : OpR X (binaryOp .Add) (fun x y H Q => ∃ i j, x = .str i ∧ y = .str j ∧ i.length + j.length ≤ sizeLine ∧ Q (.str (i ++ j)) H) := by
  intro pins s σ H x y v u Q I rx ry h
  obtain ⟨i, j, rfl, rfl, hz, q⟩ := h
  obtain ⟨t, rfl⟩ := rx
  obtain ⟨t', rfl⟩ := ry
  exact add_str (fun t' tk => ⟨.str (i ++ j), H, I.tok _, ⟨_, rfl⟩, q⟩) hz
def PlainIxT (b : Expr) : Prop := ∀ o i, subscripted b false o i = operate [o, i] (getItem o i)
theorem vals1 {x : V} {us : List Value} (r : Vals [x] us) : ∃ u, us = [u] ∧ RelV x u := by
  cases r with
  | cons r1 r2 => cases r2; exact ⟨_, rfl, r1⟩
theorem vals2 {x y : V} {us : List Value} (r : Vals [x, y] us) : ∃ u w', us = [u, w'] ∧ RelV x u ∧ RelV y w' := by
  cases r with
  | cons r1 r2 =>
    cases r2 with
    | cons r3 r4 => cases r4; exact ⟨_, _, rfl, r1, r3⟩
theorem call_abs : CallR X (.builtin "abs") (fun xs H Q => ∃ i, xs = [.int i] ∧ Q (.int (if i < 0 then -i else i)) H) := by
  intro pins s σ H xs us Q I r h
  obtain ⟨i, rfl, q⟩ := h
  obtain ⟨u, rfl, t, rfl⟩ := vals1 r
  exact call_abs_int fun u tk => ⟨.int (if i < 0 then -i else i), H, I.tok _, ⟨_, rfl⟩, q⟩
theorem call_min2 (hc : X.calm = true) : CallR X (.builtin "min") (fun xs H Q => ∃ i j, xs = [.int i, .int j] ∧ Q (.int (if j < i then j else i)) H) := by
  intro pins s σ H xs us Q I r h
  obtain ⟨i, j, rfl, q⟩ := h
  obtain ⟨u, w', rfl, ⟨t, rfl⟩, ⟨t', rfl⟩⟩ := vals2 r
  refine min_two_ints (I.ok.hd hc) fun h' tk k => ⟨_, H, I.kept k, ?_, q⟩
  by_cases hj : j < i
  · rw [if_pos hj, if_pos hj]; exact ⟨_, rfl⟩
  · rw [if_neg hj, if_neg hj]; exact ⟨_, rfl⟩
/-- len of a str, a bytes, a list, a tuple -/
def LenV (K : PySem.W.Frag) (x : V) (H : Hp) (n : Nat) : Prop :=
  match x with
  | .str y => y.length ≤ sizeLine ∧ n = y.length
  | .byt y => y.size ≤ sizeLine ∧ n = y.size
  | .ref p => (∃ xs, SqL K H p xs ∧ n = xs.length) ∨ ∃ xs, SqT K H p xs ∧ n = xs.length
  | _ => False
end
end L2
namespace L2
open PySem PySem.Spec PyProof.Rows
structure ObjM (h : Heap) (x dx C : Addr) (mA : Str → Option Value) : Prop where
  obj : h.get? x = some (PySem.W.instObj C dx)
  ns : h.Ns1 dx mA
  ne : dx ≠ x
theorem lookIn_ns {h : Heap} {dx : Addr} {mA : Str → Option Value} (n : h.Ns1 dx mA) : ∃ od, h.get? dx = some od ∧ ∀ name, PySem.W.lookIn name od = some (mA name) := by
  obtain ⟨o, es, ep, ho, hd, hk, _, hm⟩ := n
  refine ⟨o, ho, fun name => ?_⟩
  have e := hm name
  unfold nsFind findBy at e
  rw [← Array.find?_toList] at e
  unfold PySem.W.lookIn
  rw [hd]
  dsimp only
  split
  · rename_i y q
    rw [q] at e
    exact congrArg some e
  · rename_i q
    rw [q] at e
    have a : es.toList.any (·.refKey) = false := by
      rw [List.any_eq_false]
      intro y hy
      obtain ⟨z, t, hkey⟩ := hk y (Array.mem_toList_iff.mp hy)
      simp [DictEntry.refKey, hkey]
    have a' : ¬ es.toList.any (·.refKey) = true := by rw [a]; exact Bool.false_ne_true
    rw [if_neg a']
    exact congrArg some e
theorem ObjM.look {h : Heap} {x dx C : Addr} {mA : Str → Option Value} (I : ObjM h x dx C mA) : ∃ od, PySem.W.InstAt h x (PySem.W.instObj C dx) C (some od) ∧ ∀ name, PySem.W.lookIn name od = some (mA name) :=
  let ⟨od, ho, hl⟩ := lookIn_ns I.ns
  ⟨od, ⟨I.obj, rfl, rfl, ho⟩, hl⟩
section
variable {prog : Program} {w : World} {A : Around} {E : Value → Shared → Prop} {s : Shared} {K : PySem.W.Frag} {x dx C f : Addr} {mA : Str → Option Value} {name : Str} {v : Value}
end
def putF (f : Str) (v : V) : List (Str × V) → List (Str × V)
  | [] => [(f, v)]
  | (g, x) :: r => if g = f then (g, v) :: r else (g, x) :: putF f v r
section
variable {P : Program} {w : World} {H H' : Hp} {h h' : Heap} {a C dx : Addr} {fs fs' : List (Str × V)}
end
structure Cls (K : PySem.W.Frag) (C : Addr) : Prop where
  pg : PySem.W.plainGet K C Str.empty = true
  hd : PySem.W.hasDictIn K C = true
  po : PySem.W.plainOver K C = true
  sa : PySem.W.findIn K (.ref C) "__setattr__" = some (some (.builtin "object.__setattr__"))
theorem Cls.get {K : PySem.W.Frag} {C : Addr} (c : Cls K C) (f : Str) : PySem.W.plainGet K C f = true := c.pg
/-- no class of it has the name -/
def NoAttr (K : PySem.W.Frag) (C : Addr) (f : Str) : Prop := PySem.W.findIn K (.ref C) f = some none
/-- a constant of the class -/
structure Con (K : PySem.W.Frag) (C : Addr) (f : Str) (v : V) (u : Value) : Prop where
  at_ : PySem.W.findIn K (.ref C) f = some (some u)
  rel : RelV v u
  get : PySem.W.specialIn K u "__get__" = some none
  cp : PySem.W.copiedNames.contains f = false
/-- a method: a plain def of the class or of one above it -/
structure Meth (K : PySem.W.Frag) (C : Addr) (m : Str) (f : Addr) : Prop where
  at_ : PySem.W.findIn K (.ref C) m = some (some (.ref f))
  fn : PySem.W.isFn K (.ref f) = true
  kp : PySem.W.keepIn K (.ref f) = true
section
variable {X : Cx} {pins : List (Addr × Obj)} {σ : St} {H : Hp} {s : Shared} {a C dx : Addr} {fs : List (Str × V)} {f : Str} {v : V} {A : Around} {E : Value → Shared → Prop}
/-- a new instance, tracked, without attributes -/
theorem Inv.made (I : Inv X pins σ H s) : Inv X pins σ (upd (upd H s.heap.objs.size (.own (s.heap.objs.size + 1))) (s.heap.objs.size + 1) (.ins C s.heap.objs.size []))
    { s with heap := (s.heap.push PySem.W.emptyDict).push (PySem.W.instObj C s.heap.objs.size) } := by
  have e1 : (s.heap.push PySem.W.emptyDict).get? s.heap.objs.size = some PySem.W.emptyDict := Heap.get?_push_size s.heap rfl
  have e2 : ((s.heap.push PySem.W.emptyDict).push (PySem.W.instObj C s.heap.objs.size)).get? (s.heap.objs.size + 1) = some (PySem.W.instObj C s.heap.objs.size) := by
    have := Heap.get?_push_size (s.heap.push PySem.W.emptyDict) (o := PySem.W.instObj C s.heap.objs.size) rfl
    rwa [Heap.size_push] at this
  have e3 : (s.heap.push PySem.W.emptyDict).Ns s.heap.objs.size (fun _ => none) := ⟨PySem.W.emptyDict, #[], _, e1, rfl, (fun e he => absurd he (by simp)), fun _ => rfl⟩
  have I1 := I.laid (a := s.heap.objs.size) (o := .own (s.heap.objs.size + 1)) (h' := s.heap.push PySem.W.emptyDict) (t' := s.toks) (fun b u q => Heap.get?_push_of_some _ q) (Nat.le_refl _) ⟨_, e1⟩
  refine I1.laid (a := s.heap.objs.size + 1) (o := .ins C s.heap.objs.size []) (t' := s.toks) (fun b u q => Heap.get?_push_of_some _ q) (Nat.le_of_eq (Heap.size_push _ _)) ?_
  have ne : s.heap.objs.size ≠ s.heap.objs.size + 1 := Nat.ne_of_lt (Nat.lt_succ_self _)
  refine ⟨by rw [upd_ne ne, upd_same], Nat.zero_le _, ne, e2, fun _ => none, (Heap.Ns1.of_empty e3).at fun o q => Heap.get?_push_of_some _ q, fun _ => True.intro, fun y hy => absurd rfl hy⟩
end
/-- e.f, an attribute of the instance -/
def tFld (K : PySem.W.Frag) (ta : TE) (f : Str) : TE := fun σ H Q => ta σ H fun x H1 => ∃ a C dx fs v, x = .ref a ∧ H1 a = some (.ins C dx fs) ∧ Cls K C ∧ NoAttr K C f ∧ fs.lookup f = some v ∧ Q v H1
/-- e.f, a constant of the class -/
def tCon (K : PySem.W.Frag) (ta : TE) (f : Str) : TE := fun σ H Q => ta σ H fun x H1 => ∃ a C dx fs v u, x = .ref a ∧ H1 a = some (.ins C dx fs) ∧ Cls K C ∧ Con K C f v u ∧ fs.lookup f = none ∧ Q v H1
/-- e.f = value -/
def sFld (K : PySem.W.Frag) (ta tv : TE) (f : Str) : TS := fun D σ H => tv σ H fun y H1 => ta σ H1 fun x H2 => ∃ a C dx fs, x = .ref a ∧ H2 a = some (.ins C dx fs) ∧ Cls K C ∧ NoAttr K C f ∧ fs.length < 1000 ∧
  D.nx σ (upd H2 a (.ins C dx (putF f y fs)))
/-- an augmented operator on two values -/
def InOp (X : Cx) (op : Operator) (rd : V → V → Hp → VK → Prop) : Prop :=
  ∀ (pins : List (Addr × Obj)) (s : Shared) (σ : St) (H : Hp) (x y : V) (u v : Value) (Q : VK), Inv X pins σ H s → RelV x u → RelV y v → rd x y H Q → wpAny (model X.prog X.w) X.A (inplaceOp op u v) (EP X pins σ Q) X.xe s
/-- e.f op= value -/
def sFldAug (K : PySem.W.Frag) (ta tv : TE) (rd : V → V → Hp → VK → Prop) (f : Str) : TS := fun D σ H => ta σ H fun x H1 => ∃ a C dx fs v, x = .ref a ∧ H1 a = some (.ins C dx fs) ∧ Cls K C ∧ NoAttr K C f ∧ fs.lookup f = some v ∧
  tv σ H1 fun y H2 => rd v y H2 fun z H3 => ∃ dx' fs', H3 a = some (.ins C dx' fs') ∧ fs'.length < 1000 ∧ D.nx σ (upd H3 a (.ins C dx' (putF f z fs')))
section
variable {X : Cx} {o e value : Expr} {f : Str} {pos pos' tpos : Pos} {ta tv : TE}
def rAdd : V → V → Hp → VK → Prop := fun x y H Q => ∃ i j, x = .int i ∧ y = .int j ∧ Q (.int (i + j)) H
def rSub : V → V → Hp → VK → Prop := fun x y H Q => ∃ i j, x = .int i ∧ y = .int j ∧ Q (.int (i - j)) H
end
section
variable {X : Cx} {pins : List (Addr × Obj)} {σ : St} {H : Hp} {s : Shared} {A : Around} {E : Value → Shared → Prop} {Q : Value → Shared → Prop} {c : Value} {b : Bool}
/-- the type of a value, as the fragment's deciders take it; for an instance its class -/
inductive TyOf (K : PySem.W.Frag) (H : Hp) : V → Value → Prop where
  | non : TyOf K H .non (.type "NoneType")
  | bl (x : Bool) : TyOf K H (.bl x) (.type "bool")
  | int (i : Int) : TyOf K H (.int i) (.type "int")
  | str (x : Str) : TyOf K H (.str x) (.type "str")
  | flt (x : UInt64) : TyOf K H (.flt x) (.type "float")
  | lst {a : Addr} {xs : List V} (e : H a = some (.lst xs)) : TyOf K H (.ref a) (.type "list")
  | frz {a : Addr} {o : Obj} {xs : List V} (e : H a = some (.frz o (.lst xs))) : TyOf K H (.ref a) (.type "list")
  | tup {a : Addr} {xs : List V} (e : H a = some (.tup xs)) : TyOf K H (.ref a) (.type "tuple")
  | dK {a : Addr} {kvs : List (Key × V)} (e : H a = some (.dK kvs)) : TyOf K H (.ref a) (.type "dict")
  | dT {a : Addr} {kvs : List (List Key × V)} (e : H a = some (.dT kvs)) : TyOf K H (.ref a) (.type "dict")
  | ins {a C dx : Addr} {fs : List (Str × V)} (e : H a = some (.ins C dx fs)) (cl : Cls K C) (ha : PySem.W.findIn K (.ref C) "__class__" = some (some (.builtin "object.__class__")))
      (hn : PySem.W.specialIn K (.builtin "object.__class__") "__get__" = some (some (.builtin "getset_descriptor.__get__"))) (htk : PySem.W.takesIn K (.builtin "object.__class__") = some true)
      (hm : PySem.W.mroIn K C (.type "object") = some true) : TyOf K H (.ref a) (.ref C)
end
end L2
namespace L2
open PySem PySem.Spec PyProof.Rows
structure Room (k : Nat) (A : Around) : Prop where
  hd : A.handled = none
  dp : A.depth + 3 * k + 5 < recursionLimit
  un : A.units + 16 * k + 200 < cLine
  gd : A.guards = some []
theorem Room.mono {j k : Nat} {A : Around} (r : Room k A) (h : j ≤ k) : Room j A := ⟨r.hd, by have := r.dp; omega, by have := r.un; omega, r.gd⟩
theorem Room.deeper {k : Nat} {A : Around} (r : Room (k + 1) A) (env : Env) : Room k (A.deeper env) :=
  ⟨r.hd, by have := r.dp; show A.depth + 1 + 3 * k + 5 < _; omega, by have := r.un; show A.units + 3 + 16 * k + 200 < _; omega, r.gd⟩
theorem Room.in1 {k : Nat} {A : Around} (r : Room (k + 1) A) : Room k A.in1 :=
  ⟨r.hd, by have := r.dp; show A.depth + 3 * k + 5 < _; omega, by have := r.un; show A.units + 1 + 16 * k + 200 < _; omega, r.gd⟩
theorem Room.depth {k : Nat} {A : Around} (r : Room k A) : A.depth < recursionLimit := by have := r.dp; omega
theorem Room.units {k : Nat} {A : Around} (r : Room k A) : A.units + 64 < cLine := by have := r.un; omega
def tNil : TA := fun _ H Q => Q [] H
def tCons (ta : TE) (tr : TA) : TA := fun σ H Q => ta σ H fun x H1 => tr σ H1 fun xs H2 => Q (x :: xs) H2
section
variable {X : Cx} {e : Expr} {es : List Expr} {te : TE} {t : TA} {pos : Pos}
theorem pa_nil : PA X [] tNil := fun _ _ _ _ H Q I h => Calls.spliced_nil ⟨[], H, I, .nil, h⟩
theorem pa_cons (ha : PE X e te) (hr : PA X es t) (hs : starEach (e :: es) X.env = (false, eval e X.env) :: starEach es X.env := by rfl) : PA X (e :: es) (tCons te t) := by
  intro pos pins s σ H Q I h
  rw [hs]
  show wpAny _ _ (spliced ((false, eval e X.env) :: backTo pos (starEach es X.env))) _ _ s
  refine Calls.spliced_cons (thn (ha pins s σ H _ I h) fun u s1 ⟨x, H1, I1, r1, q1⟩ => ?_)
  exact thn (hr pos pins s1 σ H1 _ I1 q1) fun us s2 ⟨xs, H2, I2, r2, q2⟩ => ⟨x :: xs, H2, I2, .cons r1 r2, q2⟩
/-- a tuple, a list of written items -/
def tTup (t : TA) : TE := fun σ H Q => t σ H fun xs H1 => xs.length ≤ sizeLine ∧ ∀ p, H1 p = none → Q (.ref p) (upd H1 p (.tup xs))
def tLst (t : TA) : TE := fun σ H Q => t σ H fun xs H1 => xs.length ≤ sizeLine ∧ ∀ p, H1 p = none → Q (.ref p) (upd H1 p (.lst xs))
theorem pe_tup {x1} (h : PA X es t) : PE X (.Tuple es x1 pos) (tTup t) := by
  intro pins s σ H Q I hq
  refine wpAny_Tuple_spliced (thn (h pos pins s σ H _ I hq) fun us s1 ⟨xs, H1, I1, r, z, q⟩ => ⟨by rw [← r.length]; exact z, ?_⟩)
  have hf : H1 s1.heap.objs.size = none := I1.hok.fresh (Nat.le_refl _)
  refine ⟨.ref s1.heap.objs.size, upd H1 s1.heap.objs.size (.tup xs), I1.laid (t' := s1.toks) (fun b u e => Heap.get?_push_of_some _ e) (Nat.le_refl _) ?_, rfl, q _ hf⟩
  exact ⟨z, us, r, ⟨_, Heap.get?_push_size _ rfl, rfl, _, rfl⟩⟩
theorem pe_lst (h : PA X es t) : PE X (.List es pos) (tLst t) := by
  intro pins s σ H Q I hq
  refine wpAny_List_spliced (thn (h pos pins s σ H _ I hq) fun us s1 ⟨xs, H1, I1, r, z, q⟩ => ⟨by rw [← r.length]; exact z, ?_⟩)
  have hf : H1 s1.heap.objs.size = none := I1.hok.fresh (Nat.le_refl _)
  refine ⟨.ref s1.heap.objs.size, upd H1 s1.heap.objs.size (.lst xs), I1.laid (t' := s1.toks) (fun b u e => Heap.get?_push_of_some _ e) (Nat.le_refl _) ?_, rfl, q _ hf⟩
  exact ⟨z, us, 0, r, Heap.get?_push_size _ rfl⟩
end
/-- a def's promise: the bound arguments in the parameters' order, the heap, the wanted end, the wanted exception -/
abbrev Sp := List V → Hp → VK → XK → Prop
/-- how an exception lies behind a call (file 08 gives it): the callers' frames, abstract heap and state ahead of the call, the wish, the exception, the state -/
abbrev CXT := List Env → Hp → Shared → XK → Value → Shared → Prop
/-- the state at a call -/
structure Env0 (P : Program) (w : World) (K : PySem.W.Frag) (mg : Str → Option Value) (base : Heap) (A : Around) (outer : List Env) (s : Shared) (H : Hp) : Prop where
  frames : A.frames = some outer
  mod : Mod K mg base
  bs : ∀ b o, base.get? b = some o → s.heap.get? b = some o ∧ H b = none
  bsz : base.objs.size ≤ s.heap.objs.size
  funs : s.heap.FunFrames base outer
  frf : ∀ b ∈ frs outer, H b = none
  hok : HOk P w H s.heap
  bare : AllBare s.gens
/-- a call's end -/
def CE (outer : List Env) (P : Program) (w : World) (H : Hp) (s : Shared) (Q : VK) (u : Value) (s' : Shared) : Prop :=
  ∃ v H', s'.os = s.os ∧ AllBare s'.gens ∧ Un (frs outer) [] H H' s.heap s'.heap ∧ HOk P w H' s'.heap ∧ RelV v u ∧ Q v H'
def CR (CX : CXT) (outer : List Env) (P : Program) (w : World) (H : Hp) (s : Shared) (Q : VK) (E : XK) (r : Result) (s' : Shared) : Prop :=
  match r with
  | .ok (.ret u) => CE outer P w H s Q u s'
  | .ok _ => False
  | .error e => CX outer H s E e s'
structure FnOk (P : Program) (w : World) (K : PySem.W.Frag) (mg : Str → Option Value) (base : Heap) (CX : CXT) (k : Nat) (f : Addr) (fd : FuncData) (ps : List Str) (sp : Sp) : Prop where
  len : ∀ vs H Q E, sp vs H Q E → vs.length = ps.length
  run : ∀ (A : Around) (outer : List Env) (s : Shared) (H : Hp) (args : Args) (us : List Value) (vs : List V) (Q : VK) (E : XK), Room k A → Env0 P w K mg base A outer s H → BindsTo s fd args (ps.zip us) → Vals vs us → sp vs H Q E →
    codeAny (model P w) A (.call (.ref f) args) (CR CX outer P w H s Q E) s
theorem FnOk.mono {P : Program} {w : World} {K : PySem.W.Frag} {mg : Str → Option Value} {base : Heap} {CX : CXT} {j k : Nat} {f : Addr} {fd : FuncData} {ps : List Str} {sp : Sp} (F : FnOk P w K mg base CX j f fd ps sp) (h : j ≤ k) :
    FnOk P w K mg base CX k f fd ps sp := ⟨F.len, fun A outer s H args us vs Q E hr => F.run A outer s H args us vs Q E (hr.mono h)⟩
/-- a weaker promise -/
theorem FnOk.imp {P : Program} {w : World} {K : PySem.W.Frag} {mg : Str → Option Value} {base : Heap} {CX : CXT} {k : Nat} {f : Addr} {fd : FuncData} {ps : List Str} {sp sp' : Sp} (F : FnOk P w K mg base CX k f fd ps sp)
    (h : ∀ vs H Q E, sp' vs H Q E → sp vs H Q E) : FnOk P w K mg base CX k f fd ps sp' :=
  ⟨fun vs H Q E q => F.len vs H Q E (h _ _ _ _ q), fun A outer s H args us vs Q E hr he hb hv hs => F.run A outer s H args us vs Q E hr he hb hv (h _ _ _ _ hs)⟩
theorem Env0.in1 {P : Program} {w : World} {K : PySem.W.Frag} {mg : Str → Option Value} {base : Heap} {A : Around} {outer : List Env} {s : Shared} {H : Hp} (e : Env0 P w K mg base A outer s H) :
    Env0 P w K mg base A.in1 outer s H := ⟨e.frames, e.mod, e.bs, e.bsz, e.funs, e.frf, e.hok, e.bare⟩
section
variable {X : Cx} {pins : List (Addr × Obj)} {σ : St} {H : Hp} {s s' : Shared}
/-- from a body: what a callee wants -/
theorem Inv.env0 (I : Inv X pins σ H s) : Env0 X.prog X.w X.K X.mg X.base X.A X.stack s H :=
  ⟨I.ok.frames, I.ok.mod, I.bs, Nat.le_trans I.ok.bsz I.sz, I.stack, I.stkFree, I.hok, I.bare⟩
/-- behind a call -/
theorem Inv.after {Q : VK} {u : Value} (I : Inv X pins σ H s) (h : CE X.stack X.prog X.w H s Q u s') : EP X pins σ Q u s' := by
  obtain ⟨v, H', os, bare, un, hok, r, q⟩ := h
  obtain ⟨hh, g, d, t, os'⟩ := s'
  obtain rfl : os' = s.os := os
  exact ⟨v, H', I.call (h' := hh) (g' := g) (d' := d) (t' := t) (ch := []) un hok bare (fun b z => absurd z (by simp)), r, q⟩
end
/-- f(..): the written arguments, then the defaults dvs; E: what is wanted of an exception -/
def tCall (sp : Sp) (dvs : List V) (E : XK) (t : TA) : TE := fun σ H Q => t σ H fun vs H1 => sp (vs ++ dvs) H1 Q E
/-- o.m(..) of an instance of the class at C -/
def tMeth (C : Addr) (m : Str) (sp : Sp) (dvs : List V) (E : XK) (ta : TE) (t : TA) : TE := fun σ H Q => ta σ H fun x H1 => ∃ a dx fs, x = .ref a ∧ H1 a = some (.ins C dx fs) ∧ fs.lookup m = none ∧
  t σ H1 fun vs H2 => sp (x :: (vs ++ dvs)) H2 Q E
/-- C(..): a new instance and its dict, then __init__ -/
def tMake (C : Addr) (sp : Sp) (dvs : List V) (E : XK) (t : TA) : TE := fun σ H Q => t σ H fun vs H1 => ∀ x dx, H1 x = none → H1 dx = none → dx ≠ x →
  sp (.ref x :: (vs ++ dvs)) (upd (upd H1 dx (.own x)) x (.ins C dx [])) (fun v H2 => v = .non ∧ Q (.ref x) H2) E
/-- how the parameters are bound: us the positional arguments, kw the keywords' values by name, ds the defaults that fill up -/
def Binds (K : PySem.W.Frag) (fd : FuncData) (ps : List Str) (ds : List Value) : Prop :=
  ∀ (s : Shared) (us : List Value), K.In s.heap → (us ++ ds).length = ps.length → BindsTo s fd ⟨us, []⟩ (ps.zip (us ++ ds))
/-- every parameter is given -/
theorem Binds.all {K : PySem.W.Frag} {fd : FuncData} {ps : List Str} (h : ∀ us : List Value, us.length = ps.length → bindArgs fd ⟨us, []⟩ = pure (ps.zip us)) : Binds K fd ps [] := fun s us _ hl => by
  rw [List.append_nil] at hl ⊢
  exact .of_eq (h us hl)
/-- an exception of a callee reaches what this body wants of exceptions -/
def Passes (CX : CXT) (X : Cx) (E : XK) : Prop := ∀ (pins : List (Addr × Obj)) (σ : St) (H : Hp) (s : Shared) (e : Value) (s' : Shared), Inv X pins σ H s → CX X.stack H s E e s' → X.xe e s'
section
variable {X : Cx} {CX : CXT} {k : Nat} {f C : Addr} {fd : FuncData} {ps : List Str} {sp : Sp} {dvs : List V} {ds : List Value} {E : XK} {x m : Str} {p pos apos : Pos} {e o : Expr} {es : List Expr} {ta : TE} {t : TA}
/-- the callee runs -/
theorem run_fn {pins : List (Addr × Obj)} {σ : St} {H : Hp} {s : Shared} {Q : VK} {us : List Value} {vs : List V} (F : FnOk X.prog X.w X.K X.mg X.base CX k f fd ps sp) (hr : Room k X.A) (hb : Binds X.K fd ps ds) (hd : Vals dvs ds) (hx : Passes CX X E)
    (I : Inv X pins σ H s) (r : Vals vs us) (h : sp (vs ++ dvs) H Q E) : wpAny (model X.prog X.w) X.A (call (.ref f) us) (EP X pins σ Q) X.xe s := by
  have r2 : Vals (vs ++ dvs) (us ++ ds) := r.append hd
  have hl : (us ++ ds).length = ps.length := by rw [← r2.length]; exact F.len _ _ _ _ h
  refine wpAny_call (codeAny_mono (F.run X.A X.stack s H ⟨us, []⟩ (us ++ ds) (vs ++ dvs) Q E hr I.env0 (hb s us I.kIn hl) r2 h) fun r s' hq => ?_)
  cases r with
  | error e => exact hx pins σ H s e s' I hq
  | ok fl =>
    cases fl with
    | ret u => exact I.after hq
    | next => exact False.elim hq
    | brk => exact False.elim hq
    | cont => exact False.elim hq
theorem pe_call (F : FnOk X.prog X.w X.K X.mg X.base CX k f fd ps sp) (hr : Room k X.A) (hg : Gl X x) (hm : X.mg x = some (.ref f)) (hk : PySem.W.keepIn X.K (.ref f) = true) (hb : Binds X.K fd ps ds) (hd : Vals dvs ds) (hx : Passes CX X E)
    (ha : PA X (e :: es) t) (hdb : (x == ("__debug__" : Str)) = false := by decide) (he : starEach (e :: es) X.env = (false, eval e X.env) :: starEach es X.env := by rfl) (hpl : (backTo pos (starEach es X.env)).any (·.1) = false := by rfl) :
    PE X (.Call (.Name x p) (e :: es) [] pos) (tCall sp dvs E t) := by
  intro pins s σ H Q I h
  refine wpAny_Call_Name_kw (ld_glob I hg hm ?_ hdb)
  refine PySem.W.callWith_K (h₀ := X.base) I.ok.mod.kin hk (thn (ha pos pins s σ H _ I h) fun us s1 ⟨vs, H1, I1, r, q⟩ => ⟨I1.kIn, ?_⟩) he hpl
  exact run_fn F hr hb hd hx I1 r q
/-- what a class must have to be made -/
structure Mk (K : PySem.W.Frag) (C f : Addr) : Prop where
  makes : PySem.W.makesIn K C = true
  init : PySem.W.findIn K (.ref C) "__init__" = some (some (.ref f))
  fn : PySem.W.isFn K (.ref f) = true
  kp : PySem.W.keepIn K (.ref C) = true
end
/-- the values of the keywords, from the left -/
def PK (X : Cx) (kws : List Keyword) (t : TA) : Prop :=
  ∀ (pos : Pos) (pins : List (Addr × Obj)) (s : Shared) (σ : St) (H : Hp) (Q : List V → Hp → Prop), Inv X pins σ H s → t σ H Q → wpAny (model X.prog X.w) X.A (evalAll ((backToKw pos (keywordEach kws X.env)).map (·.2))) (AP X pins σ Q) X.xe s
section
variable {X : Cx} {CX : CXT} {k : Nat} {f C : Addr} {fd : FuncData} {ps ks : List Str} {sp : Sp} {E : XK} {x m : Str} {p pos apos kpos : Pos} {e o : Expr} {es : List Expr} {kws : List Keyword} {te ta : TE} {t tk : TA} {nm : Option Str}
/-- how a call with keywords binds: g puts the positional values us and the keywords' values ws (names ks) in the parameters' order, defaults among them -/
structure KBinds (K : PySem.W.Frag) (fd : FuncData) (ps ks : List Str) (g : List Value → List Value → List Value) (gV : List V → List V → List V) : Prop where
  to : ∀ (s : Shared) (us ws : List Value), K.In s.heap → (g us ws).length = ps.length → BindsTo s fd ⟨us, ks.zip ws⟩ (ps.zip (g us ws))
  rel : ∀ {vs : List V} {us : List Value} {zs : List V} {ws : List Value}, Vals vs us → Vals zs ws → Vals (gV vs zs) (g us ws)
def tCallK (sp : Sp) (gV : List V → List V → List V) (E : XK) (t tk : TA) : TE := fun σ H Q => t σ H fun vs H1 => tk σ H1 fun zs H2 => sp (gV vs zs) H2 Q E
variable {g : List Value → List Value → List Value} {gV : List V → List V → List V}
end
/-- names: the parameters first -/
structure FnScope (N P : List Str) (sc : Scope) : Prop where
  kind : sc.kind = .function
  co : sc.isCoroutine = false
  gen : sc.isGenerator = false
  nd : N.Nodup
  pre : N.take P.length = P
  par : ∀ x ∈ P, sc.names.lookup x = some .local ∨ sc.names.lookup x = some .cell
  nofree : ∀ y ∈ sc.names, y.2 ≠ .free
theorem bindL_out {kindOf : Str → Option NameKind} {x : Str} : ∀ {binds : List (Str × Value)} {m : Str → Option Value}, (∀ v, (x, v) ∉ binds) → bindL kindOf binds m x = m x
  | [], _, _ => rfl
  | (n, v) :: r, m, h => by
    unfold bindL
    rw [bindL_out fun w hw => h w (List.mem_cons_of_mem _ hw)]
    split
    · have : x ≠ n := by rintro rfl; exact h v List.mem_cons_self
      simp [this]
    · rfl
theorem bindC_out {kindOf : Str → Option NameKind} {x : Str} : ∀ {binds : List (Str × Value)} {m : Str → Option Value}, (∀ v, (x, v) ∉ binds) → bindC kindOf binds m x = m x
  | [], _, _ => rfl
  | (n, v) :: r, m, h => by
    unfold bindC
    rw [bindC_out fun w hw => h w (List.mem_cons_of_mem _ hw)]
    split
    · rfl
    · have : x ≠ n := by rintro rfl; exact h v List.mem_cons_self
      simp [this]
theorem bindL_get {kindOf : Str → Option NameKind} {x : Str} {v : Value} : ∀ {P : List Str} {vs : List Value} {i : Nat} {m : Str → Option Value}, P.Nodup → P[i]? = some x → vs[i]? = some v → kindOf x = some .local →
    bindL kindOf (P.zip vs) m x = some v
  | [], _, _, _, _, h, _, _ => by simp at h
  | _ :: _, [], _, _, _, _, h, _ => by simp at h
  | p :: P, w :: vs, 0, m, nd, h1, h2, hk => by
    simp at h1 h2; subst h1; subst h2
    show bindL kindOf ((p, w) :: P.zip vs) m p = _
    unfold bindL
    rw [bindL_out fun v hv => (List.nodup_cons.mp nd).1 (List.of_mem_zip hv).1, if_pos hk]
    simp
  | p :: P, w :: vs, i + 1, m, nd, h1, h2, hk => by
    show bindL kindOf ((p, w) :: P.zip vs) m x = _
    unfold bindL
    exact bindL_get (i := i) (List.nodup_cons.mp nd).2 (by simpa using h1) (by simpa using h2) hk
theorem bindC_get {kindOf : Str → Option NameKind} {x : Str} {v : Value} : ∀ {P : List Str} {vs : List Value} {i : Nat} {m : Str → Option Value}, P.Nodup → P[i]? = some x → vs[i]? = some v → kindOf x ≠ some .local →
    bindC kindOf (P.zip vs) m x = some v
  | [], _, _, _, _, h, _, _ => by simp at h
  | _ :: _, [], _, _, _, _, h, _ => by simp at h
  | p :: P, w :: vs, 0, m, nd, h1, h2, hk => by
    simp at h1 h2; subst h1; subst h2
    show bindC kindOf ((p, w) :: P.zip vs) m p = _
    unfold bindC
    rw [bindC_out fun v hv => (List.nodup_cons.mp nd).1 (List.of_mem_zip hv).1, if_neg hk]
    simp
  | p :: P, w :: vs, i + 1, m, nd, h1, h2, hk => by
    show bindC kindOf ((p, w) :: P.zip vs) m x = _
    unfold bindC
    exact bindC_get (i := i) (List.nodup_cons.mp nd).2 (by simpa using h1) (by simpa using h2) hk
/-- the names' values at the entry -/
def start (N : List Str) (vs : List V) : St := vs.map some ++ List.replicate (N.length - vs.length) none
/-- the context of a def's body, at its entry; an exception leaves the frame, then lies as CX says -/
def cxOf (CX : CXT) (P : Program) (w : World) (K : PySem.W.Frag) (mg : Str → Option Value) (base : Heap) (N : List Str) (qual : Str) (scope : Scope) (f : Addr) (cd : Value) (A : Around) (outer : List Env) (s : Shared) (H : Hp) (E : XK) : Cx where
  prog := P
  w := w
  K := K
  mg := mg
  base := base
  A := A.deeper (envOfC qual scope s.heap.objs.size f cd)
  N := N
  s_0 := s
  H_0 := H
  env := envOfC qual scope s.heap.objs.size f cd
  outer := outer
  stack := envOfC qual scope s.heap.objs.size f cd :: outer
  ex := []
  calm := true
  fn := fun _ => true
  pn := []
  xe := fun e s' => wpAny (model P w) (A.deeper (envOfC qual scope s.heap.objs.size f cd)) (leaving (envOfC qual scope s.heap.objs.size f cd) e) (fun _ s'' => CX outer H s E e s'') (fun e' s'' => CX outer H s E e' s'') s'
theorem cell_has {sc : Scope} {n : Nat} {x : Str} (h : sc.names.lookup x = some .cell) : ∃ c, (cellsFrom n sc.names []).lookup x = some c := by
  have q := PySem.W.cellsFrom_some sc.names n [] (.inl h)
  exact Option.isSome_iff_exists.mp q
theorem inv_start {CX : CXT} {P : Program} {w : World} {K : PySem.W.Frag} {mg : Str → Option Value} {base : Heap} {N ps : List Str} {qual : Str} {scope : Scope} {f : Addr} {cd : Value} {A : Around} {outer : List Env} {s s1 : Shared} {H : Hp} {E : XK} {us : List Value} {vs : List V}
    (S : FnScope N ps scope) (hd : A.handled = none) (e0 : Env0 P w K mg base A outer s H) (hl : vs.length = ps.length) (r : Vals vs us)
    (x : InCallC s s.heap.objs.size (bindL (envOfC qual scope s.heap.objs.size f cd).kindOf (ps.zip us) fun _ => none) (cellsFrom (s.heap.objs.size + 1) scope.names []) (bindC (envOfC qual scope s.heap.objs.size f cd).kindOf (ps.zip us) fun _ => none) s1) :
    Inv (cxOf CX P w K mg base N qual scope f cd A outer s H E) [] (start N vs) H s1 := by
  have hpl : ps.length ≤ N.length := by have := congrArg List.length S.pre; rw [List.length_take] at this; omega
  obtain ⟨h1, tk, rfl, hk⟩ := x.done
  have noA : ∀ b : Addr, b ∉ (cxOf CX P w K mg base N qual scope f cd A outer s H E).ex := fun b z => absurd (show b ∈ ([] : List Addr) from z) (by simp)
  refine ⟨⟨e0.mod, S.kind, rfl, rfl, Nat.le_refl _, fun y z c h1 h2 => ?_, fun y hy => ?_, fun y c _ h => ?_, fun _ => hd, Around.frames_deeper e0.frames, .inr ⟨rfl, rfl⟩, fun b z => absurd z (noA b), e0.bs, e0.bsz, fun b _ _ => noA b, fun b z => absurd z (noA b), e0.funs, e0.frf⟩,
    rfl, e0.bare, Un.kept hk, ⟨_, x.toInCall.ns, fun i y v h1 h2 h3 => ?_⟩, fun y c h => ⟨_, x.cell y c h⟩, e0.hok.fresh (Nat.le_refl _), fun y c h => ?_, fun p hp => absurd (show p ∈ ([] : List (Addr × Obj)) from hp) (by simp), e0.hok.kept hk, ?_⟩
  · exact name_of_addr x.apart (PySem.mem_of_lookup h1) (PySem.mem_of_lookup h2)
  · have hy : scope.names.lookup y = some .cell ∨ scope.names.lookup y = some .free := hy
    rcases hy with hy | hy
    · exact cell_has hy
    · exact absurd rfl (S.nofree _ (PySem.mem_of_lookup hy))
  · exact Nat.le_of_lt (x.above y c (PySem.mem_of_lookup h))
  · have hi : i < vs.length := by
      unfold start at h2
      by_cases hi : i < vs.length
      · exact hi
      · rw [List.getElem?_append_right (by simpa using hi)] at h2
        rw [List.getElem?_replicate] at h2
        split at h2 <;> cases h2
    have ha : vs[i]? = some v := by
      unfold start at h2
      rw [List.getElem?_append_left (by simpa using hi), List.getElem?_map] at h2
      cases e : vs[i]? with
      | none => rw [e] at h2; cases h2
      | some a => rw [e] at h2; cases h2; rfl
    obtain ⟨u, hu, rv⟩ := r.get ha
    have hp : ps[i]? = some y := by
      rw [← S.pre, List.getElem?_take_of_lt (by omega)]; exact h1
    have ndP : ps.Nodup := by rw [← S.pre]; exact S.nd.sublist (List.take_sublist _ _)
    refine ⟨u, rv, ?_⟩
    rcases S.par y (List.mem_of_getElem? hp) with k | k
    · exact .inl ⟨k, bindL_get ndP hp hu k⟩
    · obtain ⟨c, e⟩ := cell_has (n := s.heap.objs.size + 1) k
      refine .inr ⟨.inl k, c, e, ?_⟩
      have q := x.cell y c e
      rw [bindC_get ndP hp hu (by show scope.names.lookup y ≠ _; rw [k]; decide)] at q
      exact q
  · exact e0.hok.fresh (Nat.le_of_lt (x.above y c (PySem.mem_of_lookup h)))
  · unfold start
    show _ = N.length
    rw [List.length_append, List.length_map, List.length_replicate]
    omega
/-- THE RULE: a def (or a method) of the text, by its body. The body's reading t is chosen for each entry; it is run at the parameters' values -/
theorem fn_of {CX : CXT} {P : Program} {w : World} {K : PySem.W.Frag} {mg : Str → Option Value} {base : Heap} {k : Nat} {f : Addr} {name qual : Str} {params : Arguments} {body : List Stmt} {scope : Scope} {dV kV doc pm cdv ct oc : Value} {an od : Option Addr}
    {osl : Array (Option Value)} {N ps : List Str} {sp : Sp} (lk : K.lookup f = some ⟨oc, od, .func (PySem.W.fnOf name qual params body scope dV kV doc pm an cdv ct), osl⟩) (hcd : PySem.W.codeIn K cdv qual = true) (S : FnScope N ps scope)
    (len : ∀ vs H Q E, sp vs H Q E → vs.length = ps.length)
    (hbody : ∀ (A : Around) (outer : List Env) (s : Shared) (H : Hp) (vs : List V) (Q : VK) (E : XK), Room k (A.deeper (envOfC qual scope s.heap.objs.size f cdv)) → sp vs H Q E →
      ∃ t, PSs (cxOf CX P w K mg base N qual scope f cdv A outer s H E) body t ∧ t { nx := fun _ H' => Q .non H', rt := Q } (start N vs) H) :
    FnOk P w K mg base CX (k + 1) f (PySem.W.fnOf name qual params body scope dV kV doc pm an cdv ct) ps sp := by
  refine ⟨len, fun A outer s H args us vs Q E hr e0 hb r hsp => ?_⟩
  have hl := len _ _ _ _ hsp
  have KX : K.In s.heap := e0.mod.kin.keeps fun b o e => (e0.bs b o e).1
  have lim : s.heap.NoLimit := e0.mod.nolimit.keeps fun b o e => (e0.bs b o e).1
  have hkind : ∀ y ∈ ps.zip us, scope.names.lookup y.1 = some .local ∨ (scope.names.lookup y.1 = some .cell ∧ ((cellsFrom (s.heap.objs.size + 1) scope.names []).lookup y.1).isSome = true) := fun ⟨n, v⟩ hy => by
    rcases S.par n (List.of_mem_zip hy).1 with q | q
    · exact .inl q
    · exact .inr ⟨q, PySem.W.cellsFrom_some _ _ _ (.inl q)⟩
  refine codeAny_call_function hr.depth (KX _ _ lk) rfl S.co S.gen rfl (PySem.W.codeRec_of KX hcd) (hb _ _ _ _ ?_)
  refine wpAny_newFunctionEnv_cells S.kind hkind fun env he s1 x => ?_
  subst he
  refine ⟨lim.keeps x.toInCall.keep, codeAny_func ?_⟩
  obtain ⟨t, ht, hq⟩ := hbody A outer s H vs Q E (hr.deeper _) hsp
  have I : Inv (cxOf CX P w K mg base N qual scope f cdv A outer s H E) [] (start N vs) H s1 := inv_start S hr.hd e0 hl r x
  refine wpAny_mono (ht [] s1 (start N vs) H _ I hq) (fun fl s' hs => ?_) fun e s' hs => hs
  have fin : ∀ {σ' : St} {H' : Hp} {v : V} {u : Value}, Inv (cxOf CX P w K mg base N qual scope f cdv A outer s H E) [] σ' H' s' → RelV v u → Q v H' → CE outer P w H s Q u s' :=
    fun {σ' H' v u} J rv q => ⟨v, H', J.os, J.bare, J.base, J.hok, rv, q⟩
  cases fl with
  | ret u =>
    obtain ⟨v, σ', H', J, rv, q⟩ := hs
    exact fin J rv q
  | next =>
    obtain ⟨σ', H', J, q⟩ := hs
    exact fin (v := V.non) (u := Value.none) J rfl q
  | brk =>
    obtain ⟨_, _, _, q⟩ := hs
    exact False.elim q
  | cont =>
    obtain ⟨_, _, _, q⟩ := hs
    exact False.elim q
end L2
namespace L2
open PySem PySem.Spec PyProof.Rows
section
variable {X : Cx} {x : Str} {p pos : Pos} {e : Expr} {es : List Expr} {t : TA} {id T : String} {r : List V → Hp → VK → Prop}
def tCB (r : List V → Hp → VK → Prop) (t : TA) : TE := fun σ H Q => t σ H fun vs H1 => r vs H1 Q
/-- f(e, ..), f a built-in function -/
theorem pe_callB (hc : CallR X (.builtin id) r) (hg : Gl X x) (hm : X.mg x = none) (hv : bootBuiltins x = some (.builtin id)) (ha : PA X (e :: es) t) (hn : x ≠ "__name__" := by decide) (hdb : (x == ("__debug__" : Str)) = false := by decide)
    (he : starEach (e :: es) X.env = (false, eval e X.env) :: starEach es X.env := by rfl) (hpl : (backTo pos (starEach es X.env)).any (·.1) = false := by rfl) : PE X (.Call (.Name x p) (e :: es) [] pos) (tCB r t) := by
  intro pins s σ H Q I h
  refine wpAny_Call_Name_kw (ld_blt I hg hm hv ?_ hn hdb)
  exact PyProof.Rows.callWith_builtin1 (thn (ha pos pins s σ H _ I h) fun us s1 ⟨vs, H1, I1, r1, q1⟩ => hc pins s1 σ H1 vs us Q I1 r1 q1) he hpl
/-- T(e, ..), T a built-in type -/
theorem pe_callTy (hc : CallR X (.type T) r) (hg : Gl X x) (hm : X.mg x = none) (hv : bootBuiltins x = some (.type T)) (ha : PA X (e :: es) t) (hn : x ≠ "__name__" := by decide) (hdb : (x == ("__debug__" : Str)) = false := by decide)
    (he : starEach (e :: es) X.env = (false, eval e X.env) :: starEach es X.env := by rfl) (hpl : (backTo pos (starEach es X.env)).any (·.1) = false := by rfl) : PE X (.Call (.Name x p) (e :: es) [] pos) (tCB r t) := by
  intro pins s σ H Q I h
  refine wpAny_Call_Name_kw (ld_blt I hg hm hv ?_ hn hdb)
  exact PyProof.Rows.callWith_type1 (thn (ha pos pins s σ H _ I h) fun us s1 ⟨vs, H1, I1, r1, q1⟩ => hc pins s1 σ H1 vs us Q I1 r1 q1) he hpl
end
end L2
namespace HT
open PySem PyProof.Rows
/-- t < u of tuples of ints -/
def lexLt : List Int → List Int → Bool
  | [], [] => false
  | [], _ :: _ => true
  | _ :: _, [] => false
  | x :: xs, y :: ys => if x = y then lexLt xs ys else decide (x < y)
section
open PySem.SeqAt
open PySem.AutoSeq1 (wpAny_loadPart')
open PySem.MeetsSeq PySem.MeetsSeq2 PySem.MeetsSeq3
end
section
variable {prog : Program} {w : World} {A : Around} {E : Value → Shared → Prop} {s : Shared}
/-- a slice's bound as a place among n (d where it is left out) -/
def sIx (n d : Nat) : Option Int → Nat
  | none => d
  | some v => if v < 0 then (v + (n : Int)).toNat else min v.toNat n
theorem sIx_none (n d : Nat) : sIx n d none = d := rfl
theorem sIx_nat (n d k : Nat) : sIx n d (some (k : Int)) = min k n := by
  show (if (k : Int) < 0 then ((k : Int) + (n : Int)).toNat else min (k : Int).toNat n) = min k n
  rw [if_neg (by omega), Int.toNat_natCast]
theorem sIx_le (n d : Nat) (hd : d ≤ n) (o : Option Int) : sIx n d o ≤ n := by
  cases o with
  | none => exact hd
  | some v =>
    show (if v < 0 then (v + (n : Int)).toNat else min v.toNat n) ≤ n
    by_cases hv : v < 0
    · rw [if_pos hv]; omega
    · rw [if_neg hv]; exact Nat.min_le_right _ _
end
end HT
namespace L2
open PySem PySem.Spec PyProof.Rows
abbrev TO := St → Hp → (Option Int → Hp → Prop) → Prop
/-- a slice's part (left out, or an int) -/
def PO (X : Cx) (e : Option Expr) (t : TO) : Prop :=
  ∀ (pins : List (Addr × Obj)) (s : Shared) (σ : St) (H : Hp) (Q : Option Int → Hp → Prop), Inv X pins σ H s → t σ H Q →
    wpAny (model X.prog X.w) X.A (evalPart e X.env) (fun u s' => ∃ o H', Inv X pins σ H' s' ∧ IsPart u o ∧ Q o H') X.xe s
def tNoPart : TO := fun _ H Q => Q none H
def tPart (t : TE) : TO := fun σ H Q => t σ H fun x H1 => ∃ i, x = .int i ∧ Q (some i) H1
section
variable {X : Cx} {e : Expr} {te : TE} {lo hi : Option Expr} {tl th : TO} {pos p2 : Pos}
theorem po_none : PO X none tNoPart := by
  intro pins s σ H Q I h
  rw [evalPart_none]
  exact wpAny_pure ⟨none, H, I, .none, h⟩
theorem po_some (h : PE X e te) : PO X (some e) (tPart te) := by
  intro pins s σ H Q I hw
  rw [evalPart_some]
  refine thn (h pins s σ H _ I hw) fun u s1 ⟨x, H1, I1, r1, q1⟩ => ?_
  obtain ⟨i, rfl, q⟩ := q1
  obtain ⟨t, rfl⟩ := r1
  exact ⟨some i, H1, I1, .int i t, q⟩
/-- what a slice of a value is, by values: the slice object stands at sl -/
def SlR (X : Cx) (r : V → Option Int → Option Int → Hp → VK → Prop) : Prop :=
  ∀ (pins : List (Addr × Obj)) (s : Shared) (σ : St) (H : Hp) (x : V) (v vl vu : Value) (lo hi : Option Int) (sl : Addr) (Q : VK), Inv X pins σ H s → RelV x v → s.heap.IsSliceOf sl vl vu .none → IsPart vl lo → IsPart vu hi → r x lo hi H Q →
    ∃ T id, typeLookup (.type T) "__getitem__" = pure (some (.builtin id)) ∧ s.TypeIs v T ∧ wpAny (model X.prog X.w) X.A (getItem v (.ref sl)) (EP X pins σ Q) X.xe s
theorem SlR.or {r r' : V → Option Int → Option Int → Hp → VK → Prop} (h : SlR X r) (h' : SlR X r') : SlR X (fun x lo hi H Q => r x lo hi H Q ∨ r' x lo hi H Q) := by
  intro pins s σ H x v vl vu lo hi sl Q I rx hs pl pu q
  rcases q with q | q
  · exact h pins s σ H x v vl vu lo hi sl Q I rx hs pl pu q
  · exact h' pins s σ H x v vl vu lo hi sl Q I rx hs pl pu q
def tSl (r : V → Option Int → Option Int → Hp → VK → Prop) (te : TE) (tl th : TO) : TE := fun σ H Q => te σ H fun x H1 => tl σ H1 fun l H2 => th σ H2 fun u H3 => r x l u H3 Q
/-- a[lo:hi], any a -/
theorem pe_slice {r : V → Option Int → Option Int → Hp → VK → Prop} (hr : SlR X r) (he : PE X e te) (hl : PO X lo tl) (hu : PO X hi th) : PE X (.Subscript e (.Slice lo hi none p2) pos) (tSl r te tl th) := by
  intro pins s σ H Q I h
  refine Subscript_ (thn (he pins s σ H _ I h) fun v s1 ⟨x, H1, I1, r1, q1⟩ => ?_)
  refine wpAny_Slice (thn (hl pins s1 σ H1 _ I1 q1) fun vl s2 ⟨l, H2, I2, pl, q2⟩ => thn (hu pins s2 σ H2 _ I2 q2) fun vu s3 ⟨u, H3, I3, pu, q3⟩ => ?_)
  rw [evalPart_none]
  refine wpAny_pure ?_
  have I4 : Inv X pins σ H3 { s3 with heap := s3.heap.push { cls := .type "slice", data := .fields #[vl, vu, .none] } } := I3.kept (t' := s3.toks) fun b ob q => Heap.get?_push_of_some _ q
  obtain ⟨T, id, hT, ht, hg⟩ := hr pins { s3 with heap := s3.heap.push { cls := .type "slice", data := .fields #[vl, vu, .none] } } σ H3 x v vl vu l u s3.heap.objs.size Q I4 r1 (Heap.IsSliceOf.new ..) pl pu q3
  show wpAny (model X.prog X.w) X.A (subscriptTail e (.Slice lo hi none p2) v (.ref s3.heap.objs.size)) (EP X pins σ Q) X.xe { s3 with heap := s3.heap.push { cls := .type "slice", data := .fields #[vl, vu, .none] } }
  exact tail_any (ops := [.ref s3.heap.objs.size, v]) ht hT hg (by with_unfolding_all rfl)
/-- the items of xs[lo:hi] -/
def cutV (xs : List V) (lo hi : Option Int) : List V := (xs.drop (HT.sIx xs.length 0 lo)).take (HT.sIx xs.length xs.length hi - HT.sIx xs.length 0 lo)
theorem cutV_length (xs : List V) (lo hi : Option Int) : (cutV xs lo hi).length ≤ xs.length := by
  unfold cutV
  rw [List.length_take, List.length_drop]
  omega
/-- t[lo:hi], not the whole of it (the whole would be t itself) -/
def rSlT (K : PySem.W.Frag) : V → Option Int → Option Int → Hp → VK → Prop := fun x lo hi H Q => ∃ a xs, x = .ref a ∧ SqT K H a xs ∧
  ¬ (HT.sIx xs.length 0 lo = 0 ∧ HT.sIx xs.length xs.length hi = xs.length) ∧ ∀ p, H p = none → Q (.ref p) (upd H p (.tup (cutV xs lo hi)))
def rLtT (K : PySem.W.Frag) : R2 := fun x y H Q => ∃ a b ns ms, x = .ref a ∧ y = .ref b ∧ SqT K H a (ns.map V.int) ∧ SqT K H b (ms.map V.int) ∧ Q (.bl (HT.lexLt ns ms)) H
/-- t + u, t not empty: u empty gives t itself -/
def rCatT (K : PySem.W.Frag) : R2 := fun x y H Q => ∃ a b xs ys, x = .ref a ∧ y = .ref b ∧ SqT K H a xs ∧ SqT K H b ys ∧ xs ≠ [] ∧ xs.length + ys.length ≤ sizeLine ∧
  (ys = [] → Q (.ref a) H) ∧ (ys ≠ [] → ∀ p, H p = none → Q (.ref p) (upd H p (.tup (xs ++ ys))))
end
end L2
namespace L2
open PySem PySem.Spec PyProof.Rows
/-- the place that an index of any sign means -/
def ixN (n : Nat) (i : Int) : Option Nat := if 0 ≤ i then (if i < n then some i.toNat else none) else if -(n : Int) ≤ i then some (i + n).toNat else none
def atI {α : Type} (xs : List α) (i : Int) : Option α := (ixN xs.length i).bind fun j => xs[j]?
theorem ixN_seq {n : Nat} {i : Int} {j : Nat} (h : ixN n i = some j) : seqIndex? i n = some j ∧ j < n ∧ -(n : Int) ≤ i ∧ i < n := by
  unfold ixN at h
  by_cases h0 : 0 ≤ i
  · rw [if_pos h0] at h
    by_cases h1 : i < n
    · rw [if_pos h1] at h
      have e : i.toNat = j := Option.some.inj h
      exact ⟨by rw [seqIndex_of h0 h1, e], by omega, by omega, h1⟩
    · rw [if_neg h1] at h; cases h
  · rw [if_neg h0] at h
    by_cases h1 : -(n : Int) ≤ i
    · rw [if_pos h1] at h
      have e : (i + n).toNat = j := Option.some.inj h
      exact ⟨by rw [seqIndex_neg (by omega) h1, e], by omega, h1, by omega⟩
    · rw [if_neg h1] at h; cases h
theorem atI_get {α : Type} {xs : List α} {i : Int} {v : α} (h : atI xs i = some v) : ∃ j, seqIndex? i xs.length = some j ∧ xs[j]? = some v ∧ j < xs.length ∧ -(xs.length : Int) ≤ i ∧ i < xs.length := by
  unfold atI at h
  cases e : ixN xs.length i with
  | none => rw [e] at h; cases h
  | some j =>
    rw [e] at h
    obtain ⟨h1, h2, h3, h4⟩ := ixN_seq e
    exact ⟨j, h1, h, h2, h3, h4⟩
theorem atI_nat {α : Type} {xs : List α} {j : Nat} {v : α} (h : xs[j]? = some v) : atI xs (j : Int) = some v := by
  have hj : j < xs.length := (List.getElem?_eq_some_iff.mp h).1
  have e : ixN xs.length (j : Int) = some j := by
    unfold ixN
    rw [if_pos (by omega), if_pos (by omega)]; simp
  unfold atI; rw [e]; exact h
/-- what stands as an index of a plain subscript -/
def PlainIx (b : Expr) : Prop := ∀ o i, subscripted b false o i = operate [o, i] (getItem o i)
/-- a subscript by values -/
def IxR (X : Cx) (r : R2) : Prop :=
  ∀ (value slice : Expr) (pins : List (Addr × Obj)) (s : Shared) (σ : St) (H : Hp) (x y : V) (v u : Value) (Q : VK), Inv X pins σ H s → RelV x v → RelV y u → r x y H Q →
    subscripted slice false v u = operate [v, u] (getItem v u) → wpAny (model X.prog X.w) X.A (subscriptTail value slice v u) (EP X pins σ Q) X.xe s
/-- a call of a builtin's method by values: the receiver, the arguments -/
def MtR (X : Cx) (id : String) (r : V → List V → Hp → VK → Prop) : Prop :=
  ∀ (pins : List (Addr × Obj)) (s : Shared) (σ : St) (H : Hp) (x : V) (xs : List V) (v : Value) (us : List Value) (Q : VK), Inv X pins σ H s → RelV x v → Vals xs us → r x xs H Q →
    wpAny (model X.prog X.w) X.A (call (.builtin id) (v :: us)) (EP X pins σ Q) X.xe s
section
variable {X : Cx} {a b : Expr} {ta tb : TE} {pos : Pos}
theorem IxR.or {r r' : R2} (h : IxR X r) (h' : IxR X r') : IxR X (fun x y H Q => r x y H Q ∨ r' x y H Q) := by
  intro value slice pins s σ H x y v u Q I rx ry q hs
  rcases q with q | q
  · exact h value slice pins s σ H x y v u Q I rx ry q hs
  · exact h' value slice pins s σ H x y v u Q I rx ry q hs
theorem MtR.or {id : String} {r r' : V → List V → Hp → VK → Prop} (h : MtR X id r) (h' : MtR X id r') : MtR X id (fun x xs H Q => r x xs H Q ∨ r' x xs H Q) := by
  intro pins s σ H x xs v us Q I rx rs q
  rcases q with q | q
  · exact h pins s σ H x xs v us Q I rx rs q
  · exact h' pins s σ H x xs v us Q I rx rs q
/-- a[b] -/
theorem pe_ix {r : R2} (hr : IxR X r) (ha : PE X a ta) (hb : PE X b tb) (hs : PlainIx b) : PE X (.Subscript a b pos) (tOp r ta tb) := by
  intro pins s σ H Q I h
  exact Subscript_ (binT ha hb I h fun v u s2 x y H2 I2 rx ry q => hr a b pins s2 σ H2 x y v u Q I2 rx ry q (hs _ _))
def rIxL (K : PySem.W.Frag) : R2 := fun x y H Q => ∃ p xs i v, x = .ref p ∧ y = .int i ∧ SqL K H p xs ∧ atI xs i = some v ∧ Q v H
def rIxT (K : PySem.W.Frag) : R2 := fun x y H Q => ∃ p xs i v, x = .ref p ∧ y = .int i ∧ SqT K H p xs ∧ atI xs i = some v ∧ Q v H
def rIxS : R2 := fun x y H Q => ∃ z i c, x = .str z ∧ y = .int i ∧ z.length ≤ sizeLine ∧ atI z.cps.toList i = some c ∧ Q (.str ⟨#[c]⟩) H
theorem ix_list : IxR X (rIxL X.K) := by
  intro value slice pins s σ H x y v u Q I rx ry h hs
  obtain ⟨p, xs, i, z, rfl, rfl, hq, he, q⟩ := h
  cases rx
  obtain ⟨t, rfl⟩ := ry
  obtain ⟨its, r, pl, hz⟩ := I.list hq
  obtain ⟨j, h1, h2, h3, h4, h5⟩ := atI_get he
  obtain ⟨w, ew, rw'⟩ := r.get h2
  have hl := r.length
  have hn := line63
  have fin : EP X pins σ Q w s := ⟨z, H, I, rw', q⟩
  by_cases h0 : 0 ≤ i
  · have hj : i.toNat = j := by
      rw [seqIndex_of h0 h5] at h1
      exact Option.some.inj h1
    exact item_listR pl.isList h0 (by omega) (by rw [hj]; simpa using ew) fin hs
  · have hj : (i + (its.toArray.size : Int)).toNat = j := by
      rw [seqIndex_neg (by omega) h4] at h1
      rw [List.size_toArray, ← hl]
      exact Option.some.inj h1
    exact subscriptTail_builtinR (x := w) pl.isList.typeIs slot_list_getitem.lookup
      (wpAny_getItem_list_neg (Q := fun r s' => r = w ∧ EP X pins σ Q r s') pl.isList (by omega) (by rw [List.size_toArray] <;> omega) (by omega) (by rw [hj]; simpa using ew) ⟨rfl, fin⟩) hs
theorem ix_str : IxR X rIxS := by
  intro value slice pins s σ H x y v u Q I rx ry h hs
  obtain ⟨z, i, c, rfl, rfl, hz, he, q⟩ := h
  obtain ⟨t, rfl⟩ := rx
  obtain ⟨t', rfl⟩ := ry
  obtain ⟨j, h1, h2, h3, h4, h5⟩ := atI_get he
  have hl : z.cps.toList.length = z.length := by simp [Str.length]
  rw [hl] at h1 h4 h5
  have hn := line63
  exact tail_any (typeIs_str s z t) slot_str_getitem.lookup (getItem_str (c := c) (by
    have e1 : decide (i < -(2 ^ 63 : Int)) = false := decide_eq_false (by omega)
    have e2 : decide (i ≥ 2 ^ 63) = false := decide_eq_false (by omega)
    rw [e1, e2, Bool.or_false]) (by rw [h1]; simpa using h2) ⟨.str ⟨#[c]⟩, H, I.tok _, ⟨_, rfl⟩, q⟩) hs
/-- list, tuple or str -/
def rIx (K : PySem.W.Frag) : R2 := fun x y H Q => rIxL K x y H Q ∨ rIxT K x y H Q ∨ rIxS x y H Q
theorem Inv.lst {pins : List (Addr × Obj)} {σ : St} {H : Hp} {s : Shared} {p : Addr} {xs : List V} (I : Inv X pins σ H s) (h : H p = some (.lst xs)) :
    ∃ (its : List Value) (n : Nat), Vals xs its ∧ s.heap.get? p = some { cls := .type "list", data := .seq its.toArray n } ∧ xs.length ≤ sizeLine := by
  obtain ⟨z, its, n, r, e⟩ := I.hok p _ h
  exact ⟨its, n, r, e, z⟩
def rSetL : V → V → V → Hp → (Hp → Prop) → Prop := fun o i v H Q => ∃ p xs k j, o = .ref p ∧ i = .int k ∧ H p = some (.lst xs) ∧ ixN xs.length k = some j ∧ Q (upd H p (.lst (xs.set j v)))
theorem slice_bounds (lo hi : Option Int) (n : Nat) : (sliceBounds lo hi none n).1 = ((HT.sIx n 0 lo : Nat) : Int) ∧ (sliceBounds lo hi none n).2.1 = ((HT.sIx n n hi : Nat) : Int) ∧ (sliceBounds lo hi none n).2.2 = 1 := by
  refine ⟨?_, ?_, rfl⟩
  · cases lo with
    | none => simp [sliceBounds, HT.sIx]
    | some i =>
      simp only [sliceBounds, HT.sIx, Option.getD_none, show (1 : Int) > 0 by decide, if_true]
      by_cases h : i < 0
      · simp only [h, if_true] <;> omega
      · simp only [h, if_false] <;> omega
  · cases hi with
    | none => simp [sliceBounds, HT.sIx]
    | some i =>
      simp only [sliceBounds, HT.sIx, Option.getD_none, show (1 : Int) > 0 by decide, if_true]
      by_cases h : i < 0
      · simp only [h, if_true] <;> omega
      · simp only [h, if_false] <;> omega
theorem slicePick_cut (its : List Value) (lo hi : Option Int) : slicePick its.toArray lo hi none = ((its.drop (HT.sIx its.length 0 lo)).take (HT.sIx its.length its.length hi - HT.sIx its.length 0 lo)).toArray := by
  obtain ⟨h1, h2, h3⟩ := slice_bounds lo hi its.toArray.size
  unfold slicePick
  rw [h1, h2, h3]
  simp only [sliceRange_one, pick_run, List.size_toArray] <;> rfl
/-- xs[lo:hi] of a list: a new list -/
def rSlL (K : PySem.W.Frag) : V → Option Int → Option Int → Hp → VK → Prop := fun x lo hi H Q => ∃ a xs, x = .ref a ∧ SqL K H a xs ∧ ∀ p, H p = none → Q (.ref p) (upd H p (.lst (cutV xs lo hi)))
theorem sl_list : SlR X (rSlL X.K) := by
  intro pins s σ H x v vl vu lo hi sl Q I rx hs pl pu h
  obtain ⟨a, xs, rfl, hx, q⟩ := h
  cases rx
  obtain ⟨its, r, ht, hz⟩ := I.list hx
  have hlen := r.length
  refine ⟨"list", _, slot_list_getitem.lookup, ht.isList.typeIs, ?_⟩
  refine wpAny_getItem_list_slice ht.isList hs pl pu .none (by simp) ?_ (by rw [List.size_toArray] <;> omega)
  rw [slicePick_cut, ← hlen]
  refine ⟨.ref s.heap.objs.size, _, I.laid (t' := s.toks) (o := .lst (cutV xs lo hi)) (fun b ob q => Heap.get?_push_of_some _ q) (Nat.le_refl _) ?_, rfl, q _ (I.hok.fresh (Nat.le_refl _))⟩
  exact ⟨Nat.le_trans (cutV_length xs lo hi) hz, _, 0, (r.drop (HT.sIx xs.length 0 lo)).take (HT.sIx xs.length xs.length hi - HT.sIx xs.length 0 lo), Heap.get?_push_size _ rfl⟩
def flatV : V → Bool
  | .non => true
  | .bl _ => true
  | .int _ => true
  | .str _ => true
  | _ => false
/-- == of flat values -/
def eqV : V → V → Bool
  | .non, .non => true
  | .bl a, .bl b => a == b
  | .bl a, .int b => (if a then 1 else 0) == b
  | .int a, .bl b => a == (if b then 1 else 0)
  | .int a, .int b => a == b
  | .str a, .str b => a == b
  | _, _ => false
/-- the items' answers, read off the values (a value's own answer does not lean on its token) -/
def eqU (x : V) (u : Value) : Bool := match u with
  | .none => eqV .non x
  | .bool b => eqV (.bl b) x
  | .int i _ => eqV (.int i) x
  | .str z _ => eqV (.str z) x
  | _ => false
def inV (x : V) (xs : List V) : Bool := xs.any fun y => eqV y x
/-- x in a list or tuple of flat items -/
def rIn (K : PySem.W.Frag) (neg : Bool) : R2 := fun x y H Q => ∃ p xs, y = .ref p ∧ (SqL K H p xs ∨ SqT K H p xs) ∧ flatV x = true ∧ xs.all flatV = true ∧ Q (.bl (if neg then !inV x xs else inV x xs)) H
theorem call_len_seq : CallR X (.builtin "len") (fun xs H Q => ∃ p ys, xs = [.ref p] ∧ (SqL X.K H p ys ∨ SqT X.K H p ys) ∧ Q (.int ys.length) H) := by
  intro pins s σ H xs us Q I r h
  obtain ⟨p, ys, rfl, hq, q⟩ := h
  obtain ⟨u, rfl, rx⟩ := vals1 r
  cases rx
  have hn := line63
  rcases hq with hq | hq
  · obtain ⟨its, r', pl, hz⟩ := I.list hq
    have hlen := r'.length
    exact Calls.call_len_list pl.isList (by simp only [List.size_toArray] <;> omega) ⟨.int ys.length, H, I.tok _, ⟨s.toks + 1, by rw [List.size_toArray, hlen]⟩, q⟩
  · obtain ⟨its, r', pl, hz⟩ := I.tuple hq
    have hlen := r'.length
    exact len_tuple pl (by simp only [List.size_toArray] <;> omega) ⟨.int ys.length, H, I.tok _, ⟨s.toks + 1, by rw [List.size_toArray, hlen]⟩, q⟩
theorem call_len_str : CallR X (.builtin "len") (fun xs H Q => ∃ z, xs = [.str z] ∧ z.length ≤ sizeLine ∧ Q (.int z.length) H) := by
  intro pins s σ H xs us Q I r h
  obtain ⟨z, rfl, hz, q⟩ := h
  obtain ⟨u, rfl, t, rfl⟩ := vals1 r
  have hn := line63
  exact len_str (by omega) ⟨.int z.length, H, I.tok _, ⟨_, rfl⟩, q⟩
theorem CallR.or {f : Value} {r r' : List V → Hp → VK → Prop} (h : CallR X f r) (h' : CallR X f r') : CallR X f (fun xs H Q => r xs H Q ∨ r' xs H Q) := by
  intro pins s σ H xs us Q I rs q
  rcases q with q | q
  · exact h pins s σ H xs us Q I rs q
  · exact h' pins s σ H xs us Q I rs q
theorem call_list_of : CallR X (.type "list") (fun xs H Q => ∃ p ys, xs = [.ref p] ∧ (SqL X.K H p ys ∨ SqT X.K H p ys) ∧ ∀ l, H l = none → Q (.ref l) (upd H l (.lst ys))) := by
  intro pins s σ H xs us Q I r h
  obtain ⟨p, ys, rfl, hq, q⟩ := h
  obtain ⟨u, rfl, rx⟩ := vals1 r
  cases rx
  have fin : ∀ (its : List Value), Vals ys its → ys.length ≤ sizeLine → ∀ (h' : Heap) (c' : Nat), (∀ b o', s.heap.get? b = some o' → h'.get? b = some o') →
      h'.get? s.heap.objs.size = some { cls := .type "list", dict := none, data := .seq its.toArray c', slots := #[] } → EP X pins σ Q (.ref s.heap.objs.size) { s with heap := h' } := fun its r' hz h' c' kp e =>
    ⟨.ref s.heap.objs.size, _, I.laid (t' := s.toks) kp (Nat.le_refl _) (show ObjOk X.prog X.w _ h' _ (.lst ys) from ⟨hz, its, c', r', e⟩), rfl, q _ (I.hok.fresh (Nat.le_refl _))⟩
  rcases hq with hq | hq
  · obtain ⟨its, r', pl, hz⟩ := I.list hq
    have hlen := r'.length
    obtain ⟨o, ho, hc, n, hd⟩ := pl.isList
    exact call_list_seq p (.inl rfl) ho hc hd (fun h' c' kp e => fin its r' hz h' c' kp e) (by simp only [List.size_toArray] <;> omega)
  · obtain ⟨its, r', pl, hz⟩ := I.tuple hq
    have hlen := r'.length
    obtain ⟨o, ho, hc, n, hd⟩ := pl
    exact call_list_seq p (.inr rfl) ho hc hd (fun h' c' kp e => fin its r' hz h' c' kp e) (by simp only [List.size_toArray] <;> omega)
theorem call_tuple_of : CallR X (.type "tuple") (fun xs H Q => ∃ p ys, xs = [.ref p] ∧ ((SqL X.K H p ys ∧ ∀ l, H l = none → Q (.ref l) (upd H l (.tup ys))) ∨ (SqT X.K H p ys ∧ Q (.ref p) H))) := by
  intro pins s σ H xs us Q I r h
  obtain ⟨p, ys, rfl, h⟩ := h
  obtain ⟨u, rfl, rx⟩ := vals1 r
  cases rx
  rcases h with ⟨hq, q⟩ | ⟨hq, q⟩
  · obtain ⟨its, r', pl, hz⟩ := I.list hq
    have hlen := r'.length
    refine call_tuple_list pl.isList (fun h' kp => ?_) (by simp only [List.size_toArray] <;> omega)
    have I1 : Inv X pins σ H { s with heap := h' } := I.kept (t' := s.toks) kp
    have I2 : Inv X pins σ (upd H h'.objs.size (.tup ys)) { s with heap := h'.push { cls := .type "tuple", data := .seq its.toArray } } :=
      I1.laid (t' := s.toks) (fun b o e => Heap.get?_push_of_some _ e) (Nat.le_refl _) (show ObjOk X.prog X.w _ _ _ (.tup ys) from ⟨hz, its, r', IsTup.new _ _⟩)
    exact ⟨.ref h'.objs.size, _, I2, rfl, q _ (I1.hok.fresh (Nat.le_refl _))⟩
  · obtain ⟨its, r', pl, hz⟩ := I.tuple hq
    exact call_tuple_same pl ⟨.ref p, H, I, rfl, q⟩
/-- the value is of that builtin type -/
def tyV (K : PySem.W.Frag) (T : String) (x : V) (H : Hp) : Prop := match x with
  | .str _ => T = "str"
  | .int _ => T = "int"
  | .ref p => (T = "list" ∧ ∃ xs, SqL K H p xs) ∨ (T = "tuple" ∧ ∃ o, K.lookup p = some o ∧ o.cls = .type "tuple" ∧ o.dict = none) ∨
      (T = "dict" ∧ ((∃ kvs, H p = some (.dK kvs)) ∨ ∃ kvs, H p = some (.dT kvs))) ∨ (T = "set" ∧ ∃ S n, H p = some (.set S n))
  | _ => False
theorem tyV_is {pins : List (Addr × Obj)} {σ : St} {H : Hp} {s : Shared} {T : String} {x : V} {v : Value} (I : Inv X pins σ H s) (r : RelV x v) (ty : tyV X.K T x H) :
    s.TypeIs v T ∧ ∀ a, v = .ref a → ∃ ob, s.heap.get? a = some ob ∧ ob.dict = none := by
  cases x with
  | str z =>
    obtain ⟨t, rfl⟩ := r
    cases (show T = "str" from ty)
    exact ⟨typeIs_str s z t, fun _ e => nomatch e⟩
  | int i =>
    obtain ⟨t, rfl⟩ := r
    cases (show T = "int" from ty)
    exact ⟨typeIs_int s i t, fun _ e => nomatch e⟩
  | ref p =>
    cases r
    rcases ty with ⟨rfl, xs, hq⟩ | ⟨rfl, o, hk, hc, hd⟩ | ⟨rfl, hk⟩ | ⟨rfl, S, n, hk⟩
    · obtain ⟨its, _, pl, _⟩ := I.list hq
      refine ⟨pl.isList.typeIs, fun a e => ?_⟩
      cases e
      obtain ⟨o, n, e, c, hd, _⟩ := pl
      exact ⟨o, e, hd⟩
    · refine ⟨⟨o, I.kIn p o hk, hc⟩, fun a e => ?_⟩
      cases e
      exact ⟨o, I.kIn _ o hk, hd⟩
    · have z : ∃ o, s.heap.get? p = some o ∧ o.ExactDict := by
        rcases hk with ⟨kvs, hk⟩ | ⟨kvs, hk⟩
        · obtain ⟨_, _, _, _, o, _, _, e, ex, _⟩ := I.hok p _ hk
          exact ⟨o, e, ex⟩
        · obtain ⟨_, _, _, _, o, _, _, e, ex, _⟩ := I.hok p _ hk
          exact ⟨o, e, ex⟩
      obtain ⟨o, e, ex⟩ := z
      refine ⟨⟨o, e, ex.1⟩, fun a e2 => ?_⟩
      cases e2
      exact ⟨o, e, ex.2.1⟩
    · obtain ⟨o, _, _, _, e, ex, _⟩ := I.hok p _ hk
      refine ⟨⟨o, e, ex.1⟩, fun a e2 => ?_⟩
      cases e2
      exact ⟨o, e, ex.2.1⟩
  | _ => exact False.elim ty
def tBM0 (K : PySem.W.Frag) (T : String) (r : V → List V → Hp → VK → Prop) (to : TE) : TE := fun σ H Q => to σ H fun x H1 => tyV K T x H1 ∧ r x [] H1 Q
def tBM (K : PySem.W.Frag) (T : String) (r : V → List V → Hp → VK → Prop) (to : TE) (t : TA) : TE := fun σ H Q => to σ H fun x H1 => tyV K T x H1 ∧ t σ H1 fun xs H2 => r x xs H2 Q
variable {o e : Expr} {es : List Expr} {to : TE} {t : TA} {name : Str} {apos cpos : Pos} {T id : String} {r : V → List V → Hp → VK → Prop}
theorem pe_bm (pa : PlainAttrs T) (slot : Slot T name id) (hty : typeOf (.builtin id) = pure (.type "method_descriptor")) (hm : MtR X id r) (ho : PE X o to) (ha : PA X (e :: es) t)
    (hbase : attributeBase o name X.env (eval o X.env) = eval o X.env := by rfl)
    (hfew : ((backTo cpos (starEach (e :: es) X.env)).all (fun x => !x.1) && (backToKw cpos (keywordEach [] X.env)).all (fun x => x.1.isSome)
      && decide ((e :: es).length + ([] : List Keyword).length + (if ([] : List Keyword).isEmpty then 0 else 1) < 30)) = true := by rfl)
    (hline : (apos.endLine == cpos.line) = true := by rfl) (hs : starEach (e :: es) X.env = (false, eval e X.env) :: starEach es X.env := by rfl) (hplain : (backTo cpos (starEach es X.env)).any (·.1) = false := by rfl) :
    PE X (.Call (.Attribute o name apos) (e :: es) [] cpos) (tBM X.K T r to t) := by
  intro pins s σ H Q I h
  refine wpAny_Call_method_late hbase hfew hline rfl (thn (ho pins s σ H _ I h) fun v s1 ⟨x, H1, I1, r1, ty, q1⟩ => ?_)
  obtain ⟨h1, h2⟩ := tyV_is I1 r1 ty
  refine ⟨T, id, pa, slot, hty, h1, h2, ?_⟩
  have hA := ha cpos pins s1 σ H1 _ I1 q1
  rw [hs] at hA ⊢
  refine Calls.callWith_builtin (by show (false || (backTo cpos (starEach es X.env)).any (·.1)) = false; rw [hplain] <;> rfl) (Calls.evalArgs_plain ?_)
  exact thn hA fun us s2 ⟨vs, H2, I2, r2, q2⟩ => hm pins s2 σ H2 x vs v us Q I2 r1 r2 q2
/- xs.append(e), list.index on a module's tuple .. are MtR facts of 06m -/
end
end L2
namespace L2
open PySem PySem.Spec PyProof.Rows
def MtM (X : Cx) (id : String) (r : V → List V → Hp → VK → Prop) : Prop :=
  ∀ (pins : List (Addr × Obj)) (s : Shared) (σ : St) (H : Hp) (x : V) (xs : List V) (v : Value) (us : List Value) (Q : VK), Inv X pins σ H s → RelV x v → Vals xs us → r x xs H Q →
    wpAny (model X.prog X.w) X.A (call (.builtin id) (v :: us)) (EP X pins σ Q) X.xe s
theorem Vals.one : ∀ {x : V} {us : List Value}, Vals [x] us → ∃ u, us = [u] ∧ RelV x u
  | _, _, .cons r .nil => ⟨_, rfl, r⟩
theorem Vals.zero : ∀ {us : List Value}, Vals [] us → us = []
  | _, .nil => rfl
theorem Vals.dropLast {xs : List V} {us : List Value} (h : Vals xs us) : Vals xs.dropLast us.dropLast := by
  induction h with
  | nil => exact .nil
  | cons r t ih =>
    cases t with
    | nil => exact .nil
    | cons q t' => exact .cons r ih
theorem Vals.eraseIdx : ∀ {xs : List V} {us : List Value} (i : Nat), Vals xs us → Vals (xs.eraseIdx i) (us.eraseIdx i)
  | _, _, _, .nil => .nil
  | _, _, 0, .cons _ t => t
  | _, _, i + 1, .cons r t => .cons r (Vals.eraseIdx i t)
theorem Vals.reverse {xs : List V} {us : List Value} (h : Vals xs us) : Vals xs.reverse us.reverse := by
  induction h with
  | nil => exact .nil
  | cons r t ih => rw [List.reverse_cons, List.reverse_cons]; exact Vals.append ih (.cons r .nil)
theorem len_erase {α : Type} : ∀ (l : List α) (i : Nat), (l.eraseIdx i).length ≤ l.length
  | [], _ => Nat.le_refl _
  | _ :: _, 0 => Nat.le_succ _
  | _ :: r, i + 1 => Nat.succ_le_succ (len_erase r i)
section
variable {X : Cx} {pins : List (Addr × Obj)} {σ : St} {H : Hp} {s : Shared} {l b : Addr} {xs ys zs : List V}
theorem Inv.lset {its its' : List Value} {n : Nat} {f : Array Value → Array Value} {t' : Nat} (I : Inv X pins σ H s) (hH : H l = some (.lst xs))
    (e : s.heap.get? l = some { cls := .type "list", data := .seq its.toArray n }) (hf : f its.toArray = its'.toArray) (hv : Vals ys its') (hz : ys.length ≤ sizeLine) :
    Inv X pins σ (upd H l (.lst ys)) { s with heap := s.heap.update l (Obj.mapSeq f), toks := t' } := by
  have q := PySem.IsL.update e f
  rw [hf] at q
  refine I.write (x := l) (e := l) (by rw [hH]; exact trivial) (.inl rfl) (fun b' u hb hu => (Heap.get?_update_other s.heap (Obj.mapSeq f) (Ne.symm hb)).trans hu) ⟨_, q⟩ ?_
  exact ⟨hz, its', _, hv, q⟩
theorem Inv.lnew {its : List Value} {t' : Nat} (I : Inv X pins σ H s) (hv : Vals ys its) (hz : ys.length ≤ sizeLine) :
    Inv X pins σ (upd H s.heap.objs.size (.lst ys)) { s with heap := s.heap.push { cls := .type "list", data := .seq its.toArray }, toks := t' } :=
  I.laid (fun _ _ q => Heap.get?_push_of_some _ q) (Nat.le_refl _) ⟨hz, its, 0, hv, Heap.get?_push_size _ rfl⟩
theorem Inv.fresh (I : Inv X pins σ H s) : H s.heap.objs.size = none := I.hok.fresh (Nat.le_refl _)
theorem Inv.lstM (I : Inv X pins σ H s) (hH : H l = some (.lst xs)) : xs.length ≤ sizeLine ∧ ∃ (its : List Value) (n : Nat), Vals xs its ∧ xs.length = its.length ∧ s.heap.get? l = some { cls := .type "list", data := .seq its.toArray n } := by
  obtain ⟨z, its, n, r, e⟩ := I.hok l _ hH
  exact ⟨z, its, n, r, r.length, e⟩
end
section
variable {X : Cx}
def rAppend : V → List V → Hp → VK → Prop := fun x vs H Q => ∃ l xs y, x = .ref l ∧ vs = [y] ∧ H l = some (.lst xs) ∧ xs.length < sizeLine ∧ Q .non (upd H l (.lst (xs ++ [y])))
theorem mt_append : MtM X "list.append" rAppend := by
  intro pins s σ H x vs v us Q I rx rv h
  obtain ⟨l, xs, y, rfl, rfl, hH, hz, q⟩ := h
  cases rx
  obtain ⟨u, rfl, ru⟩ := rv.one
  obtain ⟨z, its, n, r, hl, e⟩ := I.lstM hH
  refine call_meets F.slot_list_append ⟨_, e, rfl⟩ F.entry_list_append (F.args_list_append_2 _ _) (PySem.list_append l its.toArray n u (by rw [List.size_toArray]; omega)) ⟨e, ?_⟩
  refine ⟨.non, _, I.lset (its' := its ++ [u]) hH e (by simp) (r.append (.cons ru .nil)) ?_, rfl, q⟩
  rw [List.length_append, List.length_singleton]
  omega
def rExtend : V → List V → Hp → VK → Prop := fun x vs H Q => ∃ l b xs zs, x = .ref l ∧ vs = [.ref b] ∧ H l = some (.lst xs) ∧ H b = some (.lst zs) ∧ xs.length + zs.length ≤ sizeLine ∧ Q .non (upd H l (.lst (xs ++ zs)))
def rPop : V → List V → Hp → VK → Prop := fun x vs H Q => ∃ l xs y, x = .ref l ∧ vs = [] ∧ H l = some (.lst xs) ∧ xs[xs.length - 1]? = some y ∧ Q y (upd H l (.lst xs.dropLast))
def rPopAt : V → List V → Hp → VK → Prop := fun x vs H Q => ∃ l xs i k y, x = .ref l ∧ vs = [.int i] ∧ H l = some (.lst xs) ∧ -(2 ^ 63) ≤ i ∧ i < 2 ^ 63 ∧ seqIndex? i xs.length = some k ∧ xs[k]? = some y ∧ Q y (upd H l (.lst (xs.eraseIdx k)))
theorem mt_popAt : MtM X "list.pop" rPopAt := by
  intro pins s σ H x vs v us Q I rx rv h
  obtain ⟨l, xs, i, k, y, rfl, rfl, hH, h1, h2, hk, hy, q⟩ := h
  cases rx
  obtain ⟨u, rfl, ru⟩ := rv.one
  obtain ⟨t, rfl⟩ := ru
  obtain ⟨z, its, n, r, hl, e⟩ := I.lstM hH
  obtain ⟨w, hw, rw'⟩ := r.get hy
  refine call_meets F.slot_list_pop ⟨_, e, rfl⟩ F.entry_list_pop (F.args_list_pop_2 _ _)
    (MeetsSeq.list_pop_at l its.toArray n i t k w (fitsIndex_both h1 h2) (by rw [List.size_toArray, ← hl]; exact hk) (by rw [← Array.getElem?_toList]; exact hw) (by rw [List.size_toArray]; omega)) ⟨e, ?_⟩
  refine ⟨y, _, I.lset (its' := its.eraseIdx k) hH e ?_ (r.eraseIdx k) ?_, rw', q⟩
  · show its.toArray.eraseIdxIfInBounds k = (its.eraseIdx k).toArray
    rw [List.eraseIdxIfInBounds_toArray]
  · have := len_erase xs k
    omega
def rReverse : V → List V → Hp → VK → Prop := fun x vs H Q => ∃ l xs, x = .ref l ∧ vs = [] ∧ H l = some (.lst xs) ∧ Q .non (upd H l (.lst xs.reverse))
def rClear : V → List V → Hp → VK → Prop := fun x vs H Q => ∃ l xs, x = .ref l ∧ vs = [] ∧ H l = some (.lst xs) ∧ Q .non (upd H l (.lst []))
def rCat : R2 := fun x y H Q => ∃ l b xs zs, x = .ref l ∧ y = .ref b ∧ H l = some (.lst xs) ∧ H b = some (.lst zs) ∧ xs.length + zs.length ≤ sizeLine ∧ ∀ p, H p = none → Q (.ref p) (upd H p (.lst (xs ++ zs)))
theorem op_cat : OpR X (binaryOp .Add) rCat := by
  intro pins s σ H x y v u Q I rx ry h
  obtain ⟨l, b, xs, zs, rfl, rfl, hH, hB, hz, q⟩ := h
  cases rx
  cases ry
  obtain ⟨z, its, n, r, hl, e⟩ := I.lstM hH
  obtain ⟨z2, its2, n2, r2, hl2, e2⟩ := I.lstM hB
  refine PySem.P.add_list e e2 ?_ (by rw [List.size_toArray, List.size_toArray]; omega)
  have ea : its.toArray ++ its2.toArray = (its ++ its2).toArray := by simp
  rw [ea]
  exact ⟨.ref _, _, I.lnew (t' := s.toks) (r.append r2) (by rw [List.length_append]; omega), rfl, q _ I.fresh⟩
/-- a list times an int (a negative one is nothing) -/
def rRep : R2 := fun x y H Q => ∃ l k xs, x = .ref l ∧ y = .int k ∧ H l = some (.lst xs) ∧ -(2 ^ 63) ≤ k ∧ k < 2 ^ 63 ∧ xs.length * k.toNat ≤ sizeLine ∧
  ∀ p, H p = none → Q (.ref p) (upd H p (.lst (List.replicate k.toNat xs).flatten))
end
section
variable {prog : Program} {w : World} {A : Around} {E : Value → Shared → Prop} {s : Shared}
end
section
variable {X : Cx}
end
end L2
namespace L2
open PySem PySem.Spec PyProof.Rows
theorem Vals.ints : ∀ {ns : List Int} {us : List Value}, Vals (ns.map V.int) us → IntsAre us ns
  | [], us, h => by
    rw [List.map_nil] at h
    cases h
    exact IntsAre.nil
  | n :: ns, us, h => by
    rw [List.map_cons] at h
    cases h with
    | cons r t =>
      obtain ⟨k, rfl⟩ := r
      exact IntsAre.cons n k (Vals.ints t)
theorem Vals.strs : ∀ {xs : List Str} {us : List Value}, Vals (xs.map V.str) us → StrsAre us xs
  | [], us, h => by
    rw [List.map_nil] at h
    cases h
    exact StrsAre.nil
  | x :: xs, us, h => by
    rw [List.map_cons] at h
    cases h with
    | cons r t =>
      obtain ⟨k, rfl⟩ := r
      exact StrsAre.cons x k (Vals.strs t)
theorem vals_of_strs : ∀ {us : List Value} {xs : List Str}, StrsAre us xs → Vals (xs.map V.str) us
  | _, _, .nil => by rw [List.map_nil]; exact Paired.nil
  | _, _, .cons x t h => by rw [List.map_cons]; exact Paired.cons (show RelV (V.str x) (Value.str x t) from ⟨t, rfl⟩) (vals_of_strs h)
section
variable {prog : Program} {w : World} {A : Around} {E : Value → Shared → Prop} {s : Shared} {l : Addr} {its : List Value} {ns : List Int} {Q : Value → Shared → Prop}
end
section
variable {X : Cx}
/-- sum(xs) of a list of ints -/
def rSum (K : PySem.W.Frag) : List V → Hp → VK → Prop := fun vs H Q => ∃ (a : Addr) (ns : List Int), vs = [V.ref a] ∧ SqL K H a (ns.map V.int) ∧ Q (.int ns.sum) H
/-- max(xs), min(xs) of a list of ints -/
def rMax (K : PySem.W.Frag) : List V → Hp → VK → Prop := fun vs H Q => ∃ (a : Addr) (ns : List Int), vs = [V.ref a] ∧ SqL K H a (ns.map V.int) ∧ 0 < ns.length ∧ ∀ m, m ∈ ns → (∀ y, y ∈ ns → y ≤ m) → Q (.int m) H
def rMin (K : PySem.W.Frag) : List V → Hp → VK → Prop := fun vs H Q => ∃ (a : Addr) (ns : List Int), vs = [V.ref a] ∧ SqL K H a (ns.map V.int) ∧ 0 < ns.length ∧ ∀ m, m ∈ ns → (∀ y, y ∈ ns → m ≤ y) → Q (.int m) H
def rSorted (K : PySem.W.Frag) : List V → Hp → VK → Prop := fun vs H Q => ∃ (a : Addr) (ns : List Int), vs = [V.ref a] ∧ SqL K H a (ns.map V.int) ∧ ns.length < 64 ∧
  ∀ (ns' : List Int) (p : Addr), ns'.Perm ns → ns'.Pairwise (· ≤ ·) → H p = none → Q (.ref p) (upd H p (.lst (ns'.map V.int)))
def rSortedS (K : PySem.W.Frag) : List V → Hp → VK → Prop := fun vs H Q => ∃ (a : Addr) (xs : List Str), vs = [V.ref a] ∧ SqL K H a (xs.map V.str) ∧ xs.length < 64 ∧
  ∀ (ys : List Str) (p : Addr), ys.Perm xs → sortedS ys = true → H p = none → Q (.ref p) (upd H p (.lst (ys.map V.str)))
theorem small64 {n : Nat} (h : n < 64) : n ≤ sizeLine := by rw [sizeLine_eq]; omega
/-- xs.sort(), ints -/
def rSort : V → List V → Hp → VK → Prop := fun x xs H Q => ∃ (a : Addr) (ns : List Int), x = V.ref a ∧ xs = [] ∧ H a = some (.lst (ns.map V.int)) ∧ ns.length < 64 ∧
  ∀ ns' : List Int, ns'.Perm ns → ns'.Pairwise (· ≤ ·) → Q .non (upd H a (.lst (ns'.map V.int)))
end
section
variable {X : Cx}
def rIndex (K : PySem.W.Frag) : V → List V → Hp → VK → Prop := fun x xs H Q => ∃ (a : Addr) (ys : List V) (y : V) (j : Nat) (z : V), x = V.ref a ∧ xs = [y] ∧ SqL K H a ys ∧ flatV y = true ∧ ys.all flatV = true ∧ ys[j]? = some z ∧ eqV z y = true ∧
  (∀ (m : Nat) (z' : V), m < j → ys[m]? = some z' → eqV z' y = false) ∧ Q (.int (j : Nat)) H
end
section
variable {X : Cx}
end
section
variable {X : Cx}
def rAny (K : PySem.W.Frag) : List V → Hp → VK → Prop := fun vs H Q => ∃ (a : Addr) (bs : List Bool), vs = [V.ref a] ∧ SqL K H a (bs.map V.bl) ∧ Q (.bl (bs.any id)) H
def rAll (K : PySem.W.Frag) : List V → Hp → VK → Prop := fun vs H Q => ∃ (a : Addr) (bs : List Bool), vs = [V.ref a] ∧ SqL K H a (bs.map V.bl) ∧ Q (.bl (bs.all id)) H
end
mutual
inductive Dp (K : PySem.W.Frag) (H : Hp) : V → PyData → Prop
  | non : Dp K H .non .none
  | bl (b : Bool) : Dp K H (.bl b) (.bool b)
  | int (i : Int) : Dp K H (.int i) (.int i)
  | str (x : Str) : Dp K H (.str x) (.str x)
  | lst {a : Addr} {xs : List V} {ds : List PyData} : SqL K H a xs → DpAll K H xs ds → Dp K H (.ref a) (.list ds)
  | tup {a : Addr} {xs : List V} {ds : List PyData} : SqT K H a xs → DpAll K H xs ds → Dp K H (.ref a) (.tuple ds)
inductive DpAll (K : PySem.W.Frag) (H : Hp) : List V → List PyData → Prop
  | nil : DpAll K H [] []
  | cons {v : V} {vs : List V} {d : PyData} {ds : List PyData} : Dp K H v d → DpAll K H vs ds → DpAll K H (v :: vs) (d :: ds)
end
section
variable {X : Cx} {pins : List (Addr × Obj)} {σ : St} {H : Hp} {s : Shared}
mutual
theorem Dp.reads (I : Inv X pins σ H s) : ∀ (d : PyData) (v : V) (u : Value), Dp X.K H v d → RelV v u → ∃ as, Reads s.heap u d as
  | .none, _, _, h, r => by
    cases h
    cases r
    exact ⟨_, Reads.none⟩
  | .bool b, _, _, h, r => by
    cases h
    cases r
    exact ⟨_, Reads.bool b⟩
  | .int i, _, _, h, r => by
    cases h
    obtain ⟨t, rfl⟩ := r
    exact ⟨_, Reads.int i t⟩
  | .str x, _, _, h, r => by
    cases h
    obtain ⟨t, rfl⟩ := r
    exact ⟨_, Reads.str x t⟩
  | .list ds, _, _, h, r => by
    cases h with
    | lst hs ha =>
      cases r
      obtain ⟨its, rv, ⟨o, n, ho, hc, _, hd⟩, _⟩ := I.list hs
      obtain ⟨as, hr⟩ := Dp.readsAll I ds _ its ha rv
      exact ⟨_, Reads.list ho hc hd hr⟩
  | .tuple ds, _, _, h, r => by
    cases h with
    | tup hs ha =>
      cases r
      obtain ⟨its, rv, ⟨o, ho, hc, n, hd⟩, _⟩ := I.tuple hs
      obtain ⟨as, hr⟩ := Dp.readsAll I ds _ its ha rv
      exact ⟨_, Reads.tuple ho hc hd hr⟩
  | .dict _, _, _, h, _ => by cases h
theorem Dp.readsAll (I : Inv X pins σ H s) : ∀ (ds : List PyData) (vs : List V) (us : List Value), DpAll X.K H vs ds → Vals vs us → ∃ as, ReadsAll s.heap us ds as
  | [], _, _, h, r => by
    cases h
    cases r
    exact ⟨_, ReadsAll.nil⟩
  | d :: ds, _, _, h, r => by
    cases h with
    | cons h1 h2 =>
      cases r with
      | cons r1 r2 =>
        obtain ⟨as, q1⟩ := Dp.reads I d _ _ h1 r1
        obtain ⟨bs, q2⟩ := Dp.readsAll I ds _ _ h2 r2
        exact ⟨_, ReadsAll.cons q1 q2⟩
end
end
section
variable {X : Cx}
def rEqD (K : PySem.W.Frag) : R2 := fun x y H Q => ∃ d e, Dp K H x d ∧ Dp K H y e ∧ SeqAt.shaped d = true ∧ SeqAt.shaped e = true ∧ Q (.bl (PyData.eqv d e)) H
def rNeD (K : PySem.W.Frag) : R2 := fun x y H Q => ∃ d e, Dp K H x d ∧ Dp K H y e ∧ SeqAt.shaped d = true ∧ SeqAt.shaped e = true ∧ Q (.bl (!PyData.eqv d e)) H
theorem op_eqD (hu : X.A.units + 64 < cLine) : OpR X (compareOp .Eq) (rEqD X.K) := by
  intro pins s σ H x y v u Q I rx ry h
  obtain ⟨d, e, hd, he, sd, se, q⟩ := h
  obtain ⟨as, r1⟩ := Dp.reads I d x v hd rx
  obtain ⟨bs, r2⟩ := Dp.reads I e y u he ry
  exact SeqAt.compareEq_shaped r1 r2 sd se hu ⟨.bl _, H, I, rfl, q⟩
theorem op_neD (hu : X.A.units + 64 < cLine) : OpR X (compareOp .NotEq) (rNeD X.K) := by
  intro pins s σ H x y v u Q I rx ry h
  obtain ⟨d, e, hd, he, sd, se, q⟩ := h
  obtain ⟨as, r1⟩ := Dp.reads I d x v hd rx
  obtain ⟨bs, r2⟩ := Dp.reads I e y u he ry
  exact SeqAt.compareNe_shaped r1 r2 sd se hu ⟨.bl _, H, I, rfl, q⟩
end
end L2
namespace L2
open PySem PySem.Spec PyProof.Rows
abbrev CellAt (h : Heap) (c : Addr) (v : Option Value) : Prop := h.IsCell c v
def relS (scope sc : Scope) : Scope :=
  { scope with names := scope.names.map fun (n, k) => if (k == .free && sc.kind == .function && sc.names.lookup n == some .cell) then (n, .cell) else (n, k) }
def cloFrom (cells : List (Str × Addr)) : List (Str × NameKind) → List (Str × Addr) → List (Str × Addr)
  | [], acc => acc
  | (n, k) :: r, acc => if k == .free then cloFrom cells r ((n, (cells.lookup n).getD 0) :: acc) else cloFrom cells r acc
theorem closure_loop (env : Env) (f : Str × NameKind → List (Str × Addr) → Sem (ForInStep (List (Str × Addr))))
    (hf : ∀ n k c, f (n, k) c = if k == .free then (do let a ← cellOf env n; pure (.yield ((n, a) :: c))) else pure (.yield c)) :
    ∀ (names : List (Str × NameKind)) (acc : List (Str × Addr)), (∀ y ∈ names, y.2 = .free → ∃ c, env.cells.lookup y.1 = some c) → forIn names acc f = pure (cloFrom env.cells names acc)
  | [], acc, _ => by rw [List.forIn_nil]; rfl
  | (n, k) :: r, acc, h => by
    rw [List.forIn_cons, hf]
    have ih := fun acc => closure_loop env f hf r acc fun y hy => h y (List.mem_cons_of_mem _ hy)
    unfold cloFrom
    by_cases hk : (k == NameKind.free) = true
    · rw [if_pos hk, if_pos hk]
      obtain ⟨c, hc⟩ := h (n, k) List.mem_cons_self (by simpa using hk)
      have e : cellOf env n = pure c := by unfold cellOf; rw [hc]
      rw [e]
      have e2 : (env.cells.lookup n).getD 0 = c := by rw [hc]; rfl
      rw [e2]
      exact ih _
    · rw [if_neg hk, if_neg hk]
      exact ih _
theorem closure_ok {scope : Scope} {env : Env} (h : ∀ y ∈ scope.names, y.2 = .free → ∃ c, env.cells.lookup y.1 = some c) : closureFor scope env = pure (cloFrom env.cells scope.names []) := by
  simp only [closureFor]
  rw [closure_loop env _ (fun n k c => rfl) scope.names [] h]
  rfl
theorem mem_lookup {α : Type} : ∀ {l : List (Str × α)} {n : Str} {c : α}, (n, c) ∈ l → ∃ c', l.lookup n = some c'
  | (k, v) :: r, n, c, h => by
    rw [List.lookup_cons]
    cases hb : n == k with
    | true => exact ⟨_, rfl⟩
    | false =>
      rcases List.mem_cons.mp h with e | h
      · cases e; simp at hb
      · exact mem_lookup h
theorem cloFrom_mem {cells : List (Str × Addr)} : ∀ {names : List (Str × NameKind)} {acc : List (Str × Addr)} {n : Str} {c : Addr}, (n, c) ∈ cloFrom cells names acc → (n, c) ∈ acc ∨ ((n, .free) ∈ names ∧ c = (cells.lookup n).getD 0)
  | [], _, _, _, h => .inl h
  | (m, k) :: r, acc, n, c, h => by
    unfold cloFrom at h
    split at h
    · rename_i hk
      have hk : k = .free := by simpa using hk
      rcases cloFrom_mem h with h | ⟨h1, h2⟩
      · rcases List.mem_cons.mp h with e | h
        · cases e; exact .inr ⟨hk ▸ List.mem_cons_self, rfl⟩
        · exact .inl h
      · exact .inr ⟨List.mem_cons_of_mem _ h1, h2⟩
    · rcases cloFrom_mem h with h | ⟨h1, h2⟩
      · exact .inl h
      · exact .inr ⟨List.mem_cons_of_mem _ h1, h2⟩
theorem cloFrom_acc {cells : List (Str × Addr)} : ∀ {names : List (Str × NameKind)} {acc : List (Str × Addr)} {p : Str × Addr}, p ∈ acc → p ∈ cloFrom cells names acc
  | [], _, _, h => h
  | (m, k) :: r, acc, p, h => by
    unfold cloFrom
    split
    · exact cloFrom_acc (List.mem_cons_of_mem _ h)
    · exact cloFrom_acc h
theorem cloFrom_has {cells : List (Str × Addr)} : ∀ {names : List (Str × NameKind)} {acc : List (Str × Addr)} {n : Str}, (n, .free) ∈ names → (n, (cells.lookup n).getD 0) ∈ cloFrom cells names acc
  | (m, k) :: r, acc, n, h => by
    unfold cloFrom
    rcases List.mem_cons.mp h with e | h
    · cases e
      exact cloFrom_acc List.mem_cons_self
    · split
      · exact cloFrom_has h
      · exact cloFrom_has h
theorem cells_mem : ∀ {names : List (Str × NameKind)} {h : Heap} {acc : List (Str × Addr)} {x : Str} {c : Addr}, (x, c) ∈ cellsFrom h.objs.size names acc →
    (x, c) ∈ acc ∨ ((x, .cell) ∈ names ∧ h.objs.size ≤ c ∧ CellAt (pushCells h names) c none)
  | [], _, _, _, _, h => .inl h
  | (n, k) :: r, h, acc, x, c, hm => by
    unfold cellsFrom at hm
    unfold pushCells
    split at hm
    · rename_i hk
      rw [if_pos hk]
      have hk : k = .cell := by simpa using hk
      rw [← Heap.size_push h { cls := .type "cell", data := .cell none }] at hm
      rcases cells_mem hm with hm | ⟨h1, h2, h3⟩
      · rcases List.mem_cons.mp hm with e | hm
        · cases e
          exact .inr ⟨hk ▸ List.mem_cons_self, Nat.le_refl _, _, pushCells_keeps r _ _ _ (Heap.get?_push_size _ rfl), rfl⟩
        · exact .inl hm
      · rw [Heap.size_push] at h2
        exact .inr ⟨List.mem_cons_of_mem _ h1, Nat.le_of_succ_le h2, h3⟩
    · rename_i hk
      rw [if_neg hk]
      rcases cells_mem hm with hm | ⟨h1, h2, h3⟩
      · exact .inl hm
      · exact .inr ⟨List.mem_cons_of_mem _ h1, h2, h3⟩
theorem cells_acc : ∀ {names : List (Str × NameKind)} {n : Nat} {acc : List (Str × Addr)} {p : Str × Addr}, p ∈ acc → p ∈ cellsFrom n names acc
  | [], _, _, _, h => h
  | (m, k) :: r, n, acc, p, h => by
    unfold cellsFrom
    split
    · exact cells_acc (List.mem_cons_of_mem _ h)
    · exact cells_acc h
theorem cells_has : ∀ {names : List (Str × NameKind)} {n : Nat} {acc : List (Str × Addr)} {x : Str}, (x, .cell) ∈ names → ∃ c, (x, c) ∈ cellsFrom n names acc
  | (m, k) :: r, n, acc, x, h => by
    unfold cellsFrom
    rcases List.mem_cons.mp h with e | h
    · cases e
      exact ⟨n, cells_acc List.mem_cons_self⟩
    · split
      · exact cells_has h
      · exact cells_has h
theorem cells_inj : ∀ {names : List (Str × NameKind)} {h : Heap} {acc : List (Str × Addr)} {x y : Str} {c : Addr}, (∀ p ∈ acc, p.2 < h.objs.size) → (∀ x y c, (x, c) ∈ acc → (y, c) ∈ acc → x = y) →
    (x, c) ∈ cellsFrom h.objs.size names acc → (y, c) ∈ cellsFrom h.objs.size names acc → x = y
  | [], _, _, _, _, _, _, hi, h1, h2 => hi _ _ _ h1 h2
  | (n, k) :: r, h, acc, x, y, c, hl, hi, h1, h2 => by
    unfold cellsFrom at h1 h2
    split at h1
    · rename_i hk
      rw [if_pos hk] at h2
      rw [← Heap.size_push h { cls := .type "cell", data := .cell none }] at h1 h2
      refine cells_inj (h := h.push _) (fun p hp => ?_) (fun x y c a b => ?_) h1 h2
      · rw [Heap.size_push]
        rcases List.mem_cons.mp hp with rfl | hp
        · exact Nat.lt_succ_self _
        · exact Nat.lt_succ_of_lt (hl p hp)
      · rcases List.mem_cons.mp a with e | a <;> rcases List.mem_cons.mp b with e' | b
        · cases e; cases e'; rfl
        · cases e; exact absurd (hl _ b) (Nat.lt_irrefl _)
        · cases e'; exact absurd (hl _ a) (Nat.lt_irrefl _)
        · exact hi _ _ _ a b
    · rename_i hk
      rw [if_neg hk] at h2
      exact cells_inj hl hi h1 h2
theorem newEnv_comp {M : Model} {A : Around} {E : Value → Shared → Prop} {s : Shared} {scope : Scope} {globals : Addr} {closure : List (Str × Addr)} {qual : Str} {func : Option Addr} {code : Value} {around : Env} {builtins : Addr} {Q : Env → Shared → Prop}
    (h : Q (newEnv scope s.heap.objs.size globals (cellsFrom (s.heap.objs.size + 1) scope.names closure) qual func code (some around) builtins)
      { s with heap := pushCells (s.heap.push { cls := .type "dict", data := .dict #[] }) scope.names }) :
    wpAny M A (newFunctionEnv scope globals closure [] qual func code (some around) builtins) Q E s := by
  simp only [newFunctionEnv, Option.isSome_some, if_true]
  refine wpAny_bind (wpAny_alloc ?_)
  refine wpAny_bind (wpAny_layCells _ (fun n k c => rfl) scope.names closure _ _ ?_)
  rw [show ({ s with heap := s.heap.push { cls := .type "dict", data := .dict #[] } } : Shared).heap.objs.size = s.heap.objs.size + 1 from Heap.size_push ..]
  rw [List.forIn_nil]
  exact wpAny_bind (wpAny_pure (wpAny_pure h))
/-- every name of the written scope, in the scope that runs -/
theorem lookup_relS {sc : Scope} : ∀ {names : List (Str × NameKind)} {x : Str} {k : NameKind},
    (names.map fun (n, k) => if (k == NameKind.free && sc.kind == .function && sc.names.lookup n == some .cell) then (n, NameKind.cell) else (n, k)).lookup x = some k →
    ∃ k', names.lookup x = some k' ∧ (k = k' ∨ (k' = .free ∧ k = .cell))
  | [], _, _, h => by simp at h
  | (n, k₀) :: r, x, k, h => by
    have ih := @lookup_relS sc r x k
    have h' : List.lookup x ((if (k₀ == NameKind.free && sc.kind == .function && sc.names.lookup n == some .cell) = true then (n, NameKind.cell) else (n, k₀)) :: (r.map _)) = some k := h
    cases hx : x == n with
    | true =>
      simp only [List.lookup_cons, hx]
      by_cases hc : (k₀ == NameKind.free && sc.kind == .function && sc.names.lookup n == some .cell) = true
      · rw [if_pos hc] at h'
        simp only [List.lookup_cons, hx] at h'
        cases h'
        simp only [Bool.and_eq_true, beq_iff_eq] at hc
        exact ⟨k₀, rfl, .inr ⟨hc.1.1, rfl⟩⟩
      · rw [if_neg hc] at h'
        simp only [List.lookup_cons, hx] at h'
        cases h'
        exact ⟨_, rfl, .inl rfl⟩
    | false =>
      simp only [List.lookup_cons, hx]
      by_cases hc : (k₀ == NameKind.free && sc.kind == .function && sc.names.lookup n == some .cell) = true
      · rw [if_pos hc] at h'
        simp only [List.lookup_cons, hx] at h'
        exact ih h'
      · rw [if_neg hc] at h'
        simp only [List.lookup_cons, hx] at h'
        exact ih h'
/-- the names of a comprehension's block: its own (with their places in N), or captured -/
structure BlkOk (N : List Str) (sc scope : Scope) (own : List (Str × Nat)) : Prop where
  kind : scope.kind = .function
  uniq : ∀ y ∈ scope.names, scope.names.lookup y.1 = some y.2
  ix : ∀ p ∈ own, N[p.2]? = some p.1
  free : ∀ y ∈ scope.names, y.2 = .free → sc.names.lookup y.1 = some .cell ∨ sc.names.lookup y.1 = some .free
  own : ∀ y ∈ scope.names, y.2 = .local ∨ y.2 = .cell → y.1 ∈ own.map (·.1) ∨ y.1 ∉ N
/-- the slots of the block's own names forgotten -/
def wipe (σ : St) : List Nat → St
  | [] => σ
  | v :: vs => (wipe σ vs).set v none
theorem wipe_length (σ : St) : ∀ vs : List Nat, (wipe σ vs).length = σ.length
  | [] => rfl
  | v :: vs => by unfold wipe; rw [List.length_set, wipe_length σ vs]
theorem wipe_some {σ : St} {i : Nat} {x : V} : ∀ {vs : List Nat}, (wipe σ vs)[i]? = some (some x) → σ[i]? = some (some x) ∧ i ∉ vs
  | [], h => ⟨h, by simp⟩
  | v :: vs, h => by
    unfold wipe at h
    by_cases hi : v = i
    · subst hi
      by_cases hv : v < (wipe σ vs).length
      · rw [List.getElem?_set_self hv] at h; cases h
      · rw [List.getElem?_eq_none (by simpa using hv)] at h; cases h
    · rw [List.getElem?_set_ne hi] at h
      obtain ⟨h1, h2⟩ := wipe_some h
      exact ⟨h1, by simp only [List.mem_cons, not_or]; exact ⟨fun e => hi e.symm, h2⟩⟩
/-- the context of a block that starts at s, its iterator's objects at fp -/
abbrev Cx.blk (X : Cx) (s : Shared) (H : Hp) (scope : Scope) (cenv : Env) (fp : List Addr) : Cx := { X with s_0 := s, H_0 := H, env := cenv, outer := X.stack, ex := fp, fn := fun x => scope.names.lookup x == some .cell, pn := [], xe := fun _ _ => False }
section
variable {X : Cx} {pins : List (Addr × Obj)} {σ : St} {H : Hp} {s : Shared}
theorem block_start {scope : Scope} {own : List (Str × Nat)} {fp : List Addr} (I : Inv X pins σ H s) (ok : BlkOk X.N X.env.scope scope own) (hN : X.N.Nodup) (hfp : ∀ b ∈ fp, FpOk X pins H b ∧ b < s.heap.objs.size) :
    Inv (X.blk s H scope (compEnvC scope (cellsFrom (s.heap.objs.size + 1) scope.names (cloFrom X.env.cells scope.names [])) s.heap.objs.size X.env) fp) [] (wipe σ (own.map (·.2))) H { s with heap := pushCells (s.heap.push { cls := .type "dict", data := .dict #[] }) scope.names } := by
  have hfree : ∀ y ∈ scope.names, y.2 = .free → ∃ c, X.env.cells.lookup y.1 = some c := fun y hy e => by
    rcases ok.free y hy e with k | k
    · exact I.ok.has _ (.inl k)
    · exact I.ok.has _ (.inr k)
  generalize hcenv : compEnvC scope (cellsFrom (s.heap.objs.size + 1) scope.names (cloFrom X.env.cells scope.names [])) s.heap.objs.size X.env = cenv
  have kp : ∀ b o, s.heap.get? b = some o → (pushCells (s.heap.push { cls := .type "dict", data := .dict #[] }) scope.names).get? b = some o := fun b o e => pushCells_keeps _ _ _ _ (Heap.get?_push_of_some _ e)
  have hL : cenv.locals = s.heap.objs.size := by rw [← hcenv]; rfl
  have hcl : cenv.cells = cellsFrom (s.heap.objs.size + 1) scope.names (cloFrom X.env.cells scope.names []) := by rw [← hcenv]; rfl
  have hsc : cenv.scope = relS scope X.env.scope := by rw [← hcenv]; rfl
  rw [← Heap.size_push s.heap { cls := .type "dict", data := .dict #[] }] at hcl
  have cm : ∀ {y c}, (y, c) ∈ cloFrom X.env.cells scope.names [] → X.env.cells.lookup y = some c ∧ c < s.heap.objs.size := fun {y c} hm => by
    rcases cloFrom_mem hm with hm | ⟨h1, rfl⟩
    · cases hm
    · obtain ⟨c, hc⟩ := hfree _ h1 rfl
      rw [hc]
      obtain ⟨w, z⟩ := I.cell _ _ hc
      exact ⟨rfl, z.lt⟩
  have mem : ∀ {y c}, cenv.cells.lookup y = some c → (X.env.cells.lookup y = some c ∧ c < s.heap.objs.size) ∨ (s.heap.objs.size + 1 ≤ c ∧ CellAt (pushCells (s.heap.push { cls := .type "dict", data := .dict #[] }) scope.names) c none) := fun {y c} e => by
    rw [hcl] at e
    rcases cells_mem (PySem.mem_of_lookup e) with hm | ⟨_, h2, h3⟩
    · exact .inl (cm hm)
    · rw [Heap.size_push] at h2; exact .inr ⟨h2, h3⟩
  have look : ∀ {y}, scope.names.lookup y = some .free → ∃ c, cenv.cells.lookup y = some c ∧ X.env.cells.lookup y = some c := fun {y} hl => by
    have hy : (y, NameKind.free) ∈ scope.names := PySem.mem_of_lookup hl
    obtain ⟨c', e'⟩ := mem_lookup (cells_acc (names := scope.names) (n := (s.heap.push { cls := .type "dict", data := .dict #[] }).objs.size) (cloFrom_has (cells := X.env.cells) (acc := []) hy))
    rw [← hcl] at e'
    refine ⟨c', e', ?_⟩
    rw [hcl] at e'
    rcases cells_mem (PySem.mem_of_lookup e') with hm | ⟨h1, _, _⟩
    · exact (cm hm).1
    · have := ok.uniq _ h1
      rw [hl] at this; cases this
  have okB : (X.blk s H scope cenv fp).Ok := by
    refine ⟨I.ok.mod, by show cenv.scope.kind = _; rw [hsc]; exact ok.kind, by show cenv.globals = _; rw [← hcenv]; exact I.ok.glob, by show cenv.builtins = _; rw [← hcenv]; exact I.ok.blt, by show s.heap.objs.size ≤ cenv.locals; rw [hL]; exact Nat.le_refl _,
      fun y z c e1 e2 => ?_, fun y hy => ?_, fun y c z e => ?_, I.ok.hd, I.ok.frames, .inl rfl, fun b hb => ⟨?_, fun y c e z => ?_⟩, I.bs, Nat.le_trans I.ok.bsz I.sz, fun b o e hb => ?_, fun b hb z => ?_, I.stack, I.stkFree⟩
    · have e1 : cenv.cells.lookup y = some c := e1
      have e2 : cenv.cells.lookup z = some c := e2
      rw [hcl] at e1 e2
      refine cells_inj (fun p hp => ?_) (fun y z c a b => I.ok.inj y z c (cm a).1 (cm b).1) (PySem.mem_of_lookup e1) (PySem.mem_of_lookup e2)
      rw [Heap.size_push]
      exact Nat.lt_succ_of_lt (cm (y := p.1) (c := p.2) hp).2
    · show ∃ c, cenv.cells.lookup y = some c
      have key : ∀ k, cenv.kindOf y = some k → (k = .cell ∨ k = .free) → ∃ c, cenv.cells.lookup y = some c := fun k hk hk' => by
        unfold Env.kindOf at hk
        rw [hsc] at hk
        obtain ⟨k', e, r⟩ := lookup_relS hk
        have : k' = .cell ∨ k' = .free := by
          rcases r with rfl | ⟨rfl, _⟩
          · exact hk'
          · exact .inr rfl
        rcases this with rfl | rfl
        · obtain ⟨c, hm⟩ := cells_has (n := (s.heap.push { cls := .type "dict", data := .dict #[] }).objs.size) (acc := cloFrom X.env.cells scope.names []) (PySem.mem_of_lookup e)
          obtain ⟨c', e'⟩ := mem_lookup hm
          exact ⟨c', by rw [hcl]; exact e'⟩
        · obtain ⟨c, h1, _⟩ := look e
          exact ⟨c, h1⟩
      rcases hy with hy | hy
      · exact key _ hy (.inl rfl)
      · exact key _ hy (.inr rfl)
    · have z : (scope.names.lookup y == some NameKind.cell) = true := z
      have z : scope.names.lookup y = some .cell := by simpa using z
      have e : cenv.cells.lookup y = some c := e
      rw [hcl] at e
      rcases cells_mem (PySem.mem_of_lookup e) with hm | ⟨_, h2, _⟩
      · rcases cloFrom_mem hm with hm | ⟨h1, _⟩
        · cases hm
        · have q := ok.uniq _ h1
          rw [z] at q; cases q
      · rw [Heap.size_push] at h2
        exact Nat.le_of_succ_le h2
    · show b ≠ cenv.locals
      rw [hL]; exact Nat.ne_of_lt (hfp b hb).2
    · have e : cenv.cells.lookup y = some c := e
      rcases mem e with ⟨h1, _⟩ | ⟨h1, _⟩
      · exact (hfp b hb).1.2.2.2.2.1 y c h1 z
      · have h2 : s.heap.objs.size + 1 ≤ b := by rw [← z]; exact h1
        exact absurd (Nat.lt_of_lt_of_le (hfp b hb).2 (Nat.le_of_succ_le h2)) (Nat.lt_irrefl _)
    · rcases (hfp b hb).1.2.2.2.1 with z | z
      · exact I.ok.noex b o e z
      · exact absurd (Nat.lt_of_lt_of_le (Heap.lt_size e) (Nat.le_trans I.ok.bsz z)) (Nat.lt_irrefl _)
    · rcases List.mem_cons.mp (I.stkSub b z) with z | z
      · exact (hfp b hb).1.2.1 z
      · exact (hfp b hb).1.2.2.1 z
  refine ⟨okB, rfl, I.bare, Un.kept kp, ⟨fun _ => none, ?_, fun i y av e1 e2 e3 => ?_⟩, fun y c e => ?_, ?_, fun y c e => ?_, fun p hp => ?_, I.hok.kept kp, by rw [wipe_length]; exact I.len⟩
  · show Heap.Ns _ cenv.locals _
    rw [hL]
    exact Heap.Ns.keeps (Heap.Ns.new ..) fun b o e => pushCells_keeps _ _ _ _ e
  · obtain ⟨e2, hne⟩ := wipe_some e2
    have hfr : scope.names.lookup y = some .free ∧ (cenv.kindOf y = some .cell ∨ cenv.kindOf y = some .free) := by
      have key : ∀ k, cenv.scope.names.lookup y = some k → k = .local ∨ k = .cell ∨ k = .free → scope.names.lookup y = some .free ∧ (cenv.kindOf y = some .cell ∨ cenv.kindOf y = some .free) := fun k hk hk' => by
        have hk0 := hk
        rw [hsc] at hk
        obtain ⟨k', e, r⟩ := lookup_relS hk
        have no : ¬ (k' = .local ∨ k' = .cell) := fun hh => by
          rcases ok.own _ (PySem.mem_of_lookup e) hh with e' | e'
          · obtain ⟨p, hp, hpy⟩ := List.mem_map.mp e'
            have e3 := ok.ix p hp
            have : p.1 = y := hpy
            rw [this] at e3
            exact hne (List.mem_map.mpr ⟨p, hp, nodup_ix hN e3 e1⟩)
          · exact e' (List.mem_of_getElem? e1)
        rcases r with rfl | ⟨rfl, rfl⟩
        · rcases hk' with rfl | rfl | rfl
          · exact absurd (.inl rfl) no
          · exact absurd (.inr rfl) no
          · exact ⟨e, .inr hk0⟩
        · exact ⟨e, .inl hk0⟩
      have e3 : Vis cenv.scope y := e3
      rcases e3 with e3 | e3 | e3
      · exact key _ e3 (.inl rfl)
      · exact key _ e3 (.inr (.inl rfl))
      · exact key _ e3 (.inr (.inr rfl))
    obtain ⟨m, hn, hl⟩ := I.loc
    have hvis : Vis X.env.scope y := (ok.free _ (PySem.mem_of_lookup hfr.1) rfl).elim (fun k => .inr (.inl k)) (fun k => .inr (.inr k))
    obtain ⟨w, r, q⟩ := hl i y av e1 e2 hvis
    refine ⟨w, r, .inr ⟨hfr.2, ?_⟩⟩
    obtain ⟨c, h1, h2⟩ := look hfr.1
    rcases q with ⟨k, _⟩ | ⟨_, c', e', z⟩
    · have k : X.env.scope.names.lookup y = some .local := k
      rcases ok.free _ (PySem.mem_of_lookup hfr.1) rfl with k' | k' <;> rw [show X.env.scope.names.lookup y = _ from k'] at k <;> cases k
    · rw [h2] at e'; cases e'
      exact ⟨c, h1, z.keeps kp⟩
  · have e : cenv.cells.lookup y = some c := e
    rcases mem e with ⟨h1, _⟩ | ⟨_, z⟩
    · obtain ⟨w, z⟩ := I.cell y c h1
      exact ⟨w, z.keeps kp⟩
    · exact ⟨_, z⟩
  · show H cenv.locals = none
    rw [hL]; exact I.hok.fresh (Nat.le_refl _)
  · have e : cenv.cells.lookup y = some c := e
    rcases mem e with ⟨h1, _⟩ | ⟨h1, _⟩
    · exact I.freeC y c h1
    · exact I.hok.fresh (Nat.le_of_succ_le h1)
  · exact absurd (show p ∈ ([] : List (Addr × Obj)) ++ [] from hp) (by simp)
/-- an item appended to a tracked list -/
theorem app_ok {E : Value → Shared → Prop} {D : Addr} {xs : List V} {y : V} {v : Value} {Q : Value → Shared → Prop} (I : Inv X pins σ H s) (hD : H D = some (.lst xs)) (hz : xs.length < sizeLine) (r : RelV y v)
    (h : ∀ s', Inv X pins σ (upd H D (.lst (xs ++ [y]))) s' → Q .none s') : wpAny (model X.prog X.w) X.A (call (.builtin "list.append") [.ref D, v]) Q E s := by
  obtain ⟨hz', its, n, ri, e⟩ := I.hok D _ hD
  have hl := ri.length
  refine append_at (hsz := by rw [List.size_toArray]; omega) e fun h' sb ho' => ?_
  refine h { s with heap := h' } (I.write (t' := s.toks) (by rw [hD]; trivial) (.inl rfl) (fun b u hb q => (sb.2 b hb).trans q) ⟨_, ho'⟩ ⟨by rw [List.length_append]; exact hz, its ++ [v], n + 1, ri.append (.cons r .nil), ?_⟩)
  rw [ho']
  simp
/-- a clause's tests -/
def PTs (X : Cx) (ifs : List Expr) (t : TT) : Prop :=
  ∀ (pins : List (Addr × Obj)) (s : Shared) (σ : St) (H : Hp) (Q : Bool → Hp → Prop), Inv X pins σ H s → t σ H Q →
    wpAny (model X.prog X.w) X.A (forIn ifs true fun c r => if r = true then do let ok ← isTrue c X.env (eval c X.env); pure (ForInStep.yield ok) else pure (ForInStep.yield r)) (TP X pins σ Q) X.xe s
def tYes : TT := fun _ H Q => Q true H
theorem pts_nil : PTs X [] tYes := fun _ _ _ H _ I h => wpAny_tests_nil ⟨H, I, h⟩
theorem pts_one {c : Expr} {t : TT} (h : PT X c t) : PTs X [c] t := fun pins s σ H Q I hw => wpAny_tests_one (h pins s σ H Q I hw)
end
theorem thnF {α : Type} {t : Sem α} {Q Q' : α → Shared → Prop} {M : Model} {A : Around} {E : Value → Shared → Prop} {s : Shared} (h : wpAny M A t Q (fun _ _ => False) s) (hQ : ∀ a s, Q a s → Q' a s) : wpAny M A t Q' E s := wpAny_mono h hQ fun _ _ z => False.elim z
/-- the loop of a list comprehension's block, the target of any form (codeAny_compLoop_tests asks a target that no tuple goes to; statement and proof follow it, PyProof/CompMap.lean:41-61, with the step letOwnedTupleGo kept) -/
theorem compLoop_any {prog : Program} {w : World} {A : Around} {R : Result → Shared → Prop} {s : Shared} {elt target iter : Expr} {ifs : List Expr} {scope : Scope} {pos : Pos} {it acc : Value} {env : Env} (I : Nat → Shared → Prop)
    (turn : ∀ n s, I n s → wpAny (model prog w) A (pyNext it) (fun r s₁ => match r with
      | none => R (.ok .next) s₁
      | some v => wpAny (model prog w) A (letOwnedTupleGo target it v) (fun _ s₁' => wpAny (model prog w) A (assign target env v) (fun _ s₂ =>
          wpAny (model prog w) A (forIn ifs true fun c r => if r = true then do let ok ← isTrue c env (eval c env); pure (ForInStep.yield ok) else pure (ForInStep.yield r)) (fun ok s₃ =>
            if ok = true then wpAny (model prog w) A (eval elt env) (fun x s₄ =>
              wpAny (model prog w) A (call (.builtin "list.append") [acc, x]) (fun _ s₅ => ∃ m, m < n ∧ I m s₅) (notedBy (model prog w) A env fun e s' => R (.error e) s') s₄) (notedBy (model prog w) A env fun e s' => R (.error e) s') s₃
            else ∃ m, m < n ∧ I m s₃) (notedBy (model prog w) A env fun e s' => R (.error e) s') s₂) (notedBy (model prog w) A env fun e s' => R (.error e) s') s₁') (notedBy (model prog w) A env fun e s' => R (.error e) s') s₁) (notedBy (model prog w) A env fun e s' => R (.error e) s') s)
    (n : Nat) (h : I n s) :
    codeAny (model prog w) A (.compLoop (.ListComp elt [⟨target, iter, ifs, 0⟩] scope pos) 0 it acc env) R s := by
  refine codeAny_loop rfl I (fun n s hI => ?_) n h
  show wpAny _ A ((compTurn (.ListComp elt [⟨target, iter, ifs, 0⟩] scope pos) 0 it acc env).onRaise (fun x => do noteFrame x env; theTreesLotGoes x)) _ _ s
  refine wpAny_noted ?_
  rw [compTurn_list]
  refine wpAny_bind (wpAny_standAt (wpAny_bind (wpAny_mono (turn n s hI) (fun r s₁ h₁ => ?_) fun _ _ h' => h')))
  cases r with
  | none => exact wpAny_pure h₁
  | some v =>
    refine wpAny_bind (wpAny_mono h₁ (fun _ s₁' h₁' => ?_) fun _ _ h' => h')
    refine wpAny_bind (wpAny_mono h₁' (fun _ s₂ h₂ => wpAny_bind (wpAny_mono h₂ (fun ok s₃ h₃ => ?_) fun _ _ h' => h')) fun _ _ h' => h')
    cases ok with
    | false => exact wpAny_pure ⟨rfl, h₃⟩
    | true =>
      exact wpAny_bind (wpAny_bind (wpAny_mono h₃ (fun x s₄ h₄ => wpAny_bind (wpAny_mono h₄ (fun _ s₅ h₅ => wpAny_pure (wpAny_pure ⟨rfl, h₅⟩)) fun _ _ h' => h')) fun _ _ h' => h'))
section
variable {X : Cx}
/-- [elt for target in iter if ..]: D the new list; W by the turn and a measure, Nx what a turn is to reach -/
def tLc (wi : TI) (g : TG) (tt : TT) (te : TE) (vs : List Nat) : TE := fun σ H Q => wi σ H fun J H1 => ∀ D, H1 D = none → ∃ W : Nat → Nat → Hp → Prop, (∃ m, W 0 m (upd H1 D (.lst []))) ∧ ∀ i m H, W i m H →
  (J.stop i H ∧ Q (.ref D) H) ∨ (J.go i H ∧ ∃ Nx : Hp → Prop, (∀ H', Nx H' → ∃ m', m' < m ∧ W (i + 1) m' H') ∧ ∀ x H', J.yld i H x H' → g x (wipe σ vs) H' fun σ2 H2 => wipe σ2 vs = wipe σ vs ∧ tt σ2 H2 fun b H3 =>
    if b = true then te σ2 H3 fun y H4 => ∃ acc, H4 D = some (.lst acc) ∧ acc.length < sizeLine ∧ Nx (upd H4 D (.lst (acc ++ [y]))) else Nx H3)
theorem lc_core {pins : List (Addr × Obj)} {s : Shared} {σ : St} {H : Hp} {Q : VK} {elt tg iter : Expr} {ifs : List Expr} {scope : Scope} {own : List (Str × Nat)} {pos pos' : Pos} {wi : TI} {g : TG} {tt : TT} {te : TE} {use : Option (Value → Sem Unit)} {Qf : Value → Shared → Prop}
    (hc : X.calm = true) (hN : X.N.Nodup) (I : Inv X pins σ H s) (hi : PI X tg iter wi) (ok : BlkOk X.N X.env.scope scope own)
    (hg : ∀ (s : Shared) (H : Hp) (C : Addr) (cl : List (Str × Addr)) (fp : List Addr), PG (X.blk s H scope (compEnvC scope cl C X.env) fp) tg g) (ht : ∀ (s : Shared) (H : Hp) (C : Addr) (cl : List (Str × Addr)) (fp : List Addr), PTs (X.blk s H scope (compEnvC scope cl C X.env) fp) ifs tt)
    (he : ∀ (s : Shared) (H : Hp) (C : Addr) (cl : List (Str × Addr)) (fp : List Addr), PE (X.blk s H scope (compEnvC scope cl C X.env) fp) elt te) (hs : ∀ x, foldedSetIterable iter X.env x = pure x)
    (h : tLc wi g tt te (own.map (·.2)) σ H Q)
    (hRR : ∀ D C s' m H', Inv X pins σ H' s' → Q (.ref D) H' → s'.heap.Ns C m → FpOk X pins H' C → compPost (model X.prog X.w) X.A X.xe use Qf (.ref D) C (.ok .next) s') :
    wpAny (model X.prog X.w) X.A (comprehension (.ListComp elt [⟨tg, iter, ifs, 0⟩] scope pos) scope X.env pos' (newList []) false (eval iter X.env) use) Qf X.xe s := by
  have hfree : ∀ y ∈ scope.names, y.2 = .free → ∃ c, X.env.cells.lookup y.1 = some c := fun y hy e => by
    rcases ok.free y hy e with k | k
    · exact I.ok.has _ (.inl k)
    · exact I.ok.has _ (.inr k)
  refine wpAny_comprehension_free (use := use) rfl hs (closure_ok hfree) ok.kind (fun y hy e => by rw [ok.uniq y hy, e])
    (thn (hi pins s σ H _ I h) fun xv s1 hx => thn hx fun itv s2 h2 => ?_)
  obtain ⟨it, fp, tn, J, H2, e, I2, T, st2, f2, q⟩ := h2
  subst e
  refine wpAny_newObj_type (newEnv_comp ?_) (by show 0 ≤ sizeLine; decide)
  generalize hD : s2.heap.objs.size = D
  have hDn : H2 D = none := I2.hok.fresh (Nat.le_of_eq hD)
  obtain ⟨W, ⟨m0, w0⟩, turn⟩ := q D hDn
  -- the new list
  generalize hs3 : ({ s2 with heap := s2.heap.push { cls := .type "list", data := .seq ([] : List Value).toArray } } : Shared) = s3
  have I3 : Inv X pins σ (upd H2 D (.lst [])) s3 := by
    rw [← hs3]
    refine I2.laid (t' := s2.toks) (fun b o e => Heap.get?_push_of_some _ e) (Nat.le_of_eq hD) ⟨Nat.zero_le _, [], 0, .nil, ?_⟩
    rw [← hD]
    exact Heap.get?_push_size _ rfl
  have h3 : s3.heap = s2.heap.push { cls := .type "list", data := .seq ([] : List Value).toArray } := by rw [← hs3]
  have sz : ∀ b ∈ fp, b < s2.heap.objs.size := fun b hb => by
    obtain ⟨o, e, _⟩ := T.obj _ _ st2 b hb
    exact Heap.lt_size e
  have f3 : ∀ b ∈ fp, FpOk X pins (upd H2 D (.lst [])) b ∧ b < s3.heap.objs.size := fun b hb => by
    have hlt := sz b hb
    refine ⟨⟨?_, (f2 b hb).2⟩, by rw [h3, Heap.size_push]; exact Nat.lt_succ_of_lt hlt⟩
    rw [upd_ne (by rw [← hD]; exact Nat.ne_of_lt hlt)]
    exact (f2 b hb).1
  have st3 : tn 0 s3.heap := T.keep _ _ _ st2 fun b _ o e => by rw [h3]; exact Heap.get?_push_of_some _ e
  have I4 := block_start I3 ok hN f3
  have pg := hg s3 (upd H2 D (.lst [])) s3.heap.objs.size (cellsFrom (s3.heap.objs.size + 1) scope.names (cloFrom X.env.cells scope.names [])) fp
  have pt := ht s3 (upd H2 D (.lst [])) s3.heap.objs.size (cellsFrom (s3.heap.objs.size + 1) scope.names (cloFrom X.env.cells scope.names [])) fp
  have pe := he s3 (upd H2 D (.lst [])) s3.heap.objs.size (cellsFrom (s3.heap.objs.size + 1) scope.names (cloFrom X.env.cells scope.names [])) fp
  show codeAny _ _ (.compStart (.ListComp elt [⟨tg, iter, ifs, 0⟩] scope pos) 0 (.ref it) (.ref D) (compEnvC scope (cellsFrom (s3.heap.objs.size + 1) scope.names (cloFrom X.env.cells scope.names [])) s3.heap.objs.size X.env)) (compPost (model X.prog X.w) X.A X.xe use Qf (.ref D) s3.heap.objs.size) { s3 with heap := pushCells (s3.heap.push { cls := .type "dict", data := .dict #[] }) scope.names }
  have nfp : ∀ b ∈ fp, (upd H2 D (.lst [])) b = none := fun b hb => (f3 b hb).1.1
  generalize hce : compEnvC scope (cellsFrom (s3.heap.objs.size + 1) scope.names (cloFrom X.env.cells scope.names [])) s3.heap.objs.size X.env = ce at I4 pg pt pe ⊢
  have cL : ce.locals = s3.heap.objs.size := by subst hce; rfl
  generalize hH3 : upd H2 D (.lst []) = H3 at I3 I4 pg pt pe w0 nfp f3
  generalize hs4 : ({ s3 with heap := pushCells (s3.heap.push { cls := .type "dict", data := .dict #[] }) scope.names } : Shared) = s4 at I4 ⊢
  have st4 : tn 0 s4.heap := T.keep _ _ _ st3 fun b _ o e => by rw [← hs4]; exact pushCells_keeps _ _ _ _ (Heap.get?_push_of_some _ e)
  have stat : ∀ {σ' : St} {H' : Hp} {s' : Shared}, Inv (X.blk s3 H3 scope ce fp) [] σ' H' s' → (∀ b ∈ fp, H' b = none) → ∀ b ∈ fp, FpOk (X.blk s3 H3 scope ce fp) [] H' b := fun {σ' H' s'} I' hn b hb =>
    ⟨hn b hb, (I'.ok.exf b hb).1, I'.ok.exfs b hb, .inl hb, fun x c e => (I'.ok.exf b hb).2 x c e, fun p hp => absurd (show p ∈ ([] : List (Addr × Obj)) ++ [] from hp) (by simp)⟩
  have loop : codeAny (model X.prog X.w) X.A (.compLoop (.ListComp elt [⟨tg, iter, ifs, 0⟩] scope pos) 0 (.ref it) (.ref D) ce) (compPost (model X.prog X.w) X.A X.xe use Qf (.ref D) s3.heap.objs.size) s4 := by
    refine compLoop_any (fun n s' => ∃ i H', Inv (X.blk s3 H3 scope ce fp) [] (wipe σ (own.map (·.2))) H' s' ∧ tn i s'.heap ∧ (∀ b ∈ fp, H' b = none) ∧ W i n H') ?_ m0 ⟨0, H3, I4, st4, nfp, w0⟩
    rintro n s5 ⟨i, H5, I5, st5, n5, w5⟩
    rcases turn i n H5 w5 with ⟨stop, qq⟩ | ⟨go, Nx, hNx, step⟩
    · have td := T.done (X.blk s3 H3 scope ce fp) rfl rfl rfl hc i [] s5 _ H5 (fun _ _ => False) I5 (stat I5 n5) st5 stop
      refine thnF td fun r s6 ⟨hr, I6⟩ => ?_
      subst hr
      -- back in the def's context
      have I7 : Inv X pins σ H5 s6 := I3.call' (ch := fp) I6.os I6.base I6.hok I6.bare fun b hb => ⟨(f3 b hb).1.2.2.2.1, (f3 b hb).1.2.1, (f3 b hb).1.2.2.2.2.1, (f3 b hb).1.2.2.2.2.2⟩
      have nC : H5 s3.heap.objs.size = none := by
        have z : H5 ce.locals = none := I6.free
        rw [cL] at z
        exact z
      obtain ⟨m, hn, _⟩ := I6.loc
      have hn : s6.heap.Ns ce.locals m := hn
      rw [cL] at hn
      exact hRR D s3.heap.objs.size s6 m H5 I7 qq hn (I3.fpOk (Nat.le_refl _) nC)
    · have ti := T.item (X.blk s3 H3 scope ce fp) rfl rfl rfl hc i [] s5 _ H5 (fun _ _ => False) I5 (stat I5 n5) st5 go
      refine thnF ti fun r s6 ⟨u, hr, h6⟩ => ?_
      subst hr
      refine thnF h6 fun _ s7 ⟨x, H7, I7, r7, y7, st7, n7⟩ => ?_
      have I7' := I7.pinned (stat I7 n7) (T.obj _ _ st7)
      refine thnF (pg _ s7 _ H7 x u _ I7' r7 (step x H7 y7)) fun _ s8 ⟨σ8, H8, I8, hw8, q8⟩ => ?_
      refine thnF (pt _ s8 σ8 H8 _ I8 q8) fun b s9 ⟨H9, I9, q9⟩ => ?_
      -- the turn's end
      have fin : ∀ {s' : Shared} {H' : Hp}, Inv (X.blk s3 H3 scope ce fp) ([] ++ pinsAt fp s7.heap) σ8 H' s' → Nx H' → ∃ m, m < n ∧ ∃ i H', Inv (X.blk s3 H3 scope ce fp) [] (wipe σ (own.map (·.2))) H' s' ∧ tn i s'.heap ∧ (∀ b ∈ fp, H' b = none) ∧ W i m H' := fun {s' H'} I' nx => by
        obtain ⟨m', hm, w'⟩ := hNx H' nx
        have pin' : ∀ b ∈ fp, ∀ o, s7.heap.get? b = some o → s'.heap.get? b = some o ∧ H' b = none := fun b hb o e =>
          let z := I'.pin (b, o) (List.mem_append_right _ (List.mem_append_right _ (mem_pinsAt hb e)))
          ⟨z.1, z.2.1⟩
        have hl : (wipe σ (own.map (·.2))).length = σ8.length := by rw [← hw8, wipe_length]
        refine ⟨m', hm, i + 1, H', (I'.unpinned (pins := [])).weak hl (fun j v e => ?_), T.keep _ _ _ st7 fun b hb o e => (pin' b hb o e).1, fun b hb => ?_, w'⟩
        · rw [← hw8] at e
          exact (wipe_some e).1
        · obtain ⟨o, e, _⟩ := T.obj _ _ st7 b hb
          exact (pin' b hb o e).2
      cases b with
      | false =>
        simp only [Bool.false_eq_true, if_false] at q9 ⊢
        exact fin I9 q9
      | true =>
        simp only [if_true] at q9 ⊢
        refine thnF (pe _ s9 σ8 H9 _ I9 q9) fun z s10 ⟨yv, H10, I10, r10, acc, hD10, hz10, nx⟩ => ?_
        exact app_ok (X := X.blk s3 H3 scope ce fp) I10 hD10 hz10 r10 fun s11 I11 => fin I11 nx
  exact codeAny_compStart_list loop (T.self X.A 0 _ _ _ st4 loop)
/-- as a value -/
theorem pe_lc {elt tg iter : Expr} {ifs : List Expr} {scope : Scope} {own : List (Str × Nat)} {pos : Pos} {wi : TI} {g : TG} {tt : TT} {te : TE} (hc : X.calm = true) (hN : X.N.Nodup) (hi : PI X tg iter wi) (ok : BlkOk X.N X.env.scope scope own)
    (hg : ∀ (s : Shared) (H : Hp) (C : Addr) (cl : List (Str × Addr)) (fp : List Addr), PG (X.blk s H scope (compEnvC scope cl C X.env) fp) tg g) (ht : ∀ (s : Shared) (H : Hp) (C : Addr) (cl : List (Str × Addr)) (fp : List Addr), PTs (X.blk s H scope (compEnvC scope cl C X.env) fp) ifs tt)
    (he : ∀ (s : Shared) (H : Hp) (C : Addr) (cl : List (Str × Addr)) (fp : List Addr), PE (X.blk s H scope (compEnvC scope cl C X.env) fp) elt te) (hs : ∀ x, foldedSetIterable iter X.env x = pure x := by intro _; rfl) :
    PE X (.ListComp elt [⟨tg, iter, ifs, 0⟩] scope pos) (tLc wi g tt te (own.map (·.2))) := by
  intro pins s σ H Q I h
  rw [eval_ListComp]
  refine lc_core hc hN I hi ok hg ht he hs h fun D C s' m H' I' q hn f => ⟨m, hn, fun h'' sb => ?_⟩
  obtain ⟨f0, f1, f2, f3, f4, f5⟩ := f
  exact ⟨.ref D, H', I'.turned (t' := s'.toks) (fun b o hb e => (sb.2 b hb).trans e) f0 f1 f3 f4 f5, rfl, q⟩
/-- name = [..] on one line, the name a local -/
theorem ps_setLc {i : Nat} {y : Str} {py : Pos} {elt tg iter : Expr} {ifs : List Expr} {scope : Scope} {own : List (Str × Nat)} {pos spos : Pos} {wi : TI} {g : TG} {tt : TT} {te : TE} (hc : X.calm = true) (hN : X.N.Nodup) (hy : X.N[i]? = some y) (hyl : X.env.scope.names.lookup y = some .local)
    (hsw : swapsWith (.ListComp elt [⟨tg, iter, ifs, 0⟩] scope pos) (some (.Name y py)) spos.line X.env = pure true) (hi : PI X tg iter wi) (ok : BlkOk X.N X.env.scope scope own)
    (hg : ∀ (s : Shared) (H : Hp) (C : Addr) (cl : List (Str × Addr)) (fp : List Addr), PG (X.blk s H scope (compEnvC scope cl C X.env) fp) tg g) (ht : ∀ (s : Shared) (H : Hp) (C : Addr) (cl : List (Str × Addr)) (fp : List Addr), PTs (X.blk s H scope (compEnvC scope cl C X.env) fp) ifs tt)
    (he : ∀ (s : Shared) (H : Hp) (C : Addr) (cl : List (Str × Addr)) (fp : List Addr), PE (X.blk s H scope (compEnvC scope cl C X.env) fp) elt te) (hs : ∀ x, foldedSetIterable iter X.env x = pure x := by intro _; rfl) :
    PS X (.Assign [.Name y py] (.ListComp elt [⟨tg, iter, ifs, 0⟩] scope pos) spos) (tAsg (tLc wi g tt te (own.map (·.2))) (gName i)) := by
  intro pins s σ H D I h
  rw [exec_Assign_Name_used _ _ _ _ hsw]
  refine wpAny_bind (wpAny_standAt (wpAny_bind ?_))
  show wpAny _ X.A (do let _ ← comprehension (.ListComp elt [⟨tg, iter, ifs, 0⟩] scope pos) scope X.env (firstIterPos [⟨tg, iter, ifs, 0⟩] pos) (newList []) false (eval iter X.env) (some (assign (.Name y py) X.env))) _ _ s
  have h : tLc wi g tt te (own.map (·.2)) σ H (fun x H1 => gName i x σ H1 D.nx) := h
  refine wpAny_bind (thn (lc_core (Qf := fun _ s' => SP X pins D .next s') hc hN I hi ok hg ht he hs h fun L C s' m H' I' q hn f => ?_) fun _ s' hq => wpAny_pure (wpAny_pure hq))
  show wpAny _ _ (assign (.Name y py) X.env (.ref L)) _ _ _
  refine wpAny_assign_Name (store_ok2 (v := V.ref L) I' hN hy (.inl hyl) rfl (fun s2 I2 ⟨a, sb, ha⟩ => ?_) (.inr hyl))
  obtain ⟨f0, f1, f2, f3, f4, f5⟩ := f
  have haC : C ≠ a := by
    rcases ha with z | z
    · rw [z]; exact f1
    · exact fun e => f4 y a z e.symm
  refine ⟨m, hn.sameBut sb haC, fun h3 sb3 => ?_⟩
  exact ⟨_, H', I2.turned (t' := s2.toks) (fun b o hb e => (sb3.2 b hb).trans e) f0 f1 f3 f4 f5, q⟩
theorem sw_true {elt : Expr} {gs : List Comprehension} {scope : Scope} {pos py : Pos} {y : Str} {l : Nat} {env : Env} (hk : env.scope.kind = .function) (hy : env.scope.names.lookup y = some .local) (hl : (py.line == pos.line) = true)
    (ha : (scope.names.any fun (n, k) => n == y && (k == .local || k == .cell)) = false) : swapsWith (.ListComp elt gs scope pos) (some (.Name y py)) l env = pure true := by
  have ky : env.kindOf y = some .local := hy
  have hb : env.blockKind = .function := by unfold Env.blockKind; rw [hk]; rfl
  unfold swapsWith
  simp only [hb, ky, ha, Expr.pos, hl]
  rfl
end
/-- over a range: Pv by the turn and the heap (the new list at D within) -/
theorem lc_range {lo : Int} {n : Nat} {g : TG} {tt : TT} {te : TE} {vs : List Nat} {σ : St} {H1 : Hp} {D : Addr} {Qd : Hp → Prop} (Pv : Nat → Hp → Prop) (h0 : Pv 0 (upd H1 D (.lst [])))
    (hs : ∀ i H, i < n → Pv i H → g (.int (lo + i)) (wipe σ vs) H fun σ2 H2 => wipe σ2 vs = wipe σ vs ∧ tt σ2 H2 fun b H3 =>
      if b = true then te σ2 H3 fun y H4 => ∃ acc, H4 D = some (.lst acc) ∧ acc.length < sizeLine ∧ Pv (i + 1) (upd H4 D (.lst (acc ++ [y]))) else Pv (i + 1) H3) (hd : ∀ H, Pv n H → Qd H) :
    ∃ W : Nat → Nat → Hp → Prop, (∃ m, W 0 m (upd H1 D (.lst []))) ∧ ∀ i m H, W i m H →
      ((Itr lo n).stop i H ∧ Qd H) ∨ ((Itr lo n).go i H ∧ ∃ Nx : Hp → Prop, (∀ H', Nx H' → ∃ m', m' < m ∧ W (i + 1) m' H') ∧ ∀ x H', (Itr lo n).yld i H x H' → g x (wipe σ vs) H' fun σ2 H2 => wipe σ2 vs = wipe σ vs ∧ tt σ2 H2 fun b H3 =>
        if b = true then te σ2 H3 fun y H4 => ∃ acc, H4 D = some (.lst acc) ∧ acc.length < sizeLine ∧ Nx (upd H4 D (.lst (acc ++ [y]))) else Nx H3) := by
  refine ⟨fun i m H => m = n - i ∧ i ≤ n ∧ Pv i H, ⟨n, by simp, Nat.zero_le _, h0⟩, ?_⟩
  rintro i m H ⟨rfl, hi, p⟩
  by_cases hlt : i < n
  · refine .inr ⟨hlt, Pv (i + 1), fun H' p' => ⟨n - (i + 1), by omega, rfl, hlt, p'⟩, fun x H' y => ?_⟩
    obtain ⟨e, y⟩ := y
    subst e y
    exact hs i _ hlt p
  · have e : i = n := by omega
    subst e
    exact .inl ⟨Nat.le_refl _, hd H p⟩
/-- over a list that the block leaves as it is -/
theorem lc_list {K : PySem.W.Frag} {a : Addr} {xs : List V} {g : TG} {tt : TT} {te : TE} {vs : List Nat} {σ : St} {H1 : Hp} {D : Addr} {Qd : Hp → Prop} (Pv : Nat → Hp → Prop) (h0 : Pv 0 (upd H1 D (.lst []))) (hl : ∀ i H, i ≤ xs.length → Pv i H → SqL K H a xs)
    (hs : ∀ i x H, xs[i]? = some x → Pv i H → g x (wipe σ vs) H fun σ2 H2 => wipe σ2 vs = wipe σ vs ∧ tt σ2 H2 fun b H3 =>
      if b = true then te σ2 H3 fun y H4 => ∃ acc, H4 D = some (.lst acc) ∧ acc.length < sizeLine ∧ Pv (i + 1) (upd H4 D (.lst (acc ++ [y]))) else Pv (i + 1) H3) (hd : ∀ H, Pv xs.length H → Qd H) :
    ∃ W : Nat → Nat → Hp → Prop, (∃ m, W 0 m (upd H1 D (.lst []))) ∧ ∀ i m H, W i m H →
      ((Itl K a).stop i H ∧ Qd H) ∨ ((Itl K a).go i H ∧ ∃ Nx : Hp → Prop, (∀ H', Nx H' → ∃ m', m' < m ∧ W (i + 1) m' H') ∧ ∀ x H', (Itl K a).yld i H x H' → g x (wipe σ vs) H' fun σ2 H2 => wipe σ2 vs = wipe σ vs ∧ tt σ2 H2 fun b H3 =>
        if b = true then te σ2 H3 fun y H4 => ∃ acc, H4 D = some (.lst acc) ∧ acc.length < sizeLine ∧ Nx (upd H4 D (.lst (acc ++ [y]))) else Nx H3) := by
  refine ⟨fun i m H => m = xs.length - i ∧ i ≤ xs.length ∧ Pv i H, ⟨xs.length, by simp, Nat.zero_le _, h0⟩, ?_⟩
  rintro i m H ⟨rfl, hi, p⟩
  have q := hl i H hi p
  by_cases hlt : i < xs.length
  · refine .inr ⟨⟨xs, xs[i], q, by simp [hlt]⟩, Pv (i + 1), fun H' p' => ⟨xs.length - (i + 1), by omega, rfl, hlt, p'⟩, fun x H' y => ?_⟩
    obtain ⟨e, y⟩ := y
    subst e
    exact hs i x _ (y xs q) p
  · have e : i = xs.length := by omega
    subst e
    exact .inl ⟨⟨xs, q, Nat.le_refl _⟩, hd H p⟩
def blkC (N : List Str) (sc scope : Scope) (own : List (Str × Nat)) : Bool :=
  (match scope.kind with | .function => true | _ => false) && (scope.names.all fun y => decide (scope.names.lookup y.1 = some y.2)) && (own.all fun p => decide (N[p.2]? = some p.1)) &&
    (scope.names.all fun y => match y.2 with
      | .free => (match sc.names.lookup y.1 with | some .cell => true | some .free => true | _ => false)
      | .local => decide (y.1 ∈ own.map (·.1)) || decide (y.1 ∉ N)
      | .cell => decide (y.1 ∈ own.map (·.1)) || decide (y.1 ∉ N)
      | _ => true)
theorem blkOk_by {N : List Str} {sc scope : Scope} {own : List (Str × Nat)} (h : blkC N sc scope own = true) : BlkOk N sc scope own := by
  unfold blkC at h
  simp only [Bool.and_eq_true, List.all_eq_true, decide_eq_true_eq] at h
  obtain ⟨⟨⟨h1, h2⟩, h3⟩, h4⟩ := h
  refine ⟨?_, h2, h3, fun y hy e => ?_, fun y hy e => ?_⟩
  · split at h1
    · assumption
    · cases h1
  · have q := h4 y hy
    simp only [e] at q
    split at q <;> first | exact .inl (by assumption) | exact .inr (by assumption) | cases q
  · have q := h4 y hy
    rcases e with e | e <;> (simp only [e, Bool.or_eq_true, decide_eq_true_eq] at q; exact q)
end L2
namespace L2
open PySem PySem.Spec PyProof.Rows
section
variable {prog : Program} {w : World} {A : Around} {R : Result → Shared → Prop} {s : Shared} {elt t0 i0 t1 i1 : Expr} {ifs0 ifs1 : List Expr} {scope : Scope} {pos : Pos} {it acc : Value} {env : Env}
end
section
variable {X : Cx}
/-- [elt for tg in iter if .. for tg1 in iter1 if ..]: behind the first clause's store and tests the second source's own loop, from which Nx is reached. vs: the block's names; vs1: those of the second target -/
def tLc2 (wi : TI) (g : TG) (tt : TT) (wi1 : TI) (g1 : TG) (tt1 : TT) (te : TE) (vs vs1 : List Nat) : TE := fun σ H Q => wi σ H fun J H1 => ∀ D, H1 D = none → ∃ W : Nat → Nat → Hp → Prop, (∃ m, W 0 m (upd H1 D (.lst []))) ∧ ∀ i m H, W i m H →
  (J.stop i H ∧ Q (.ref D) H) ∨ (J.go i H ∧ ∃ Nx : Hp → Prop, (∀ H', Nx H' → ∃ m', m' < m ∧ W (i + 1) m' H') ∧ ∀ x H', J.yld i H x H' → g x (wipe σ vs) H' fun σ2 H2 => wipe σ2 vs = wipe σ vs ∧ tt σ2 H2 fun b H3 =>
    if b = true then wi1 σ2 H3 fun J1 H4 => ∃ W1 : Nat → Nat → Hp → Prop, (∃ m, W1 0 m H4) ∧ ∀ j k H, W1 j k H →
      (J1.stop j H ∧ Nx H) ∨ (J1.go j H ∧ ∃ Nx1 : Hp → Prop, (∀ H', Nx1 H' → ∃ k', k' < k ∧ W1 (j + 1) k' H') ∧ ∀ x H', J1.yld j H x H' → g1 x (wipe σ2 vs1) H' fun σ3 H5 => wipe σ3 vs1 = wipe σ2 vs1 ∧ tt1 σ3 H5 fun b H6 =>
        if b = true then te σ3 H6 fun y H7 => ∃ acc, H7 D = some (.lst acc) ∧ acc.length < sizeLine ∧ Nx1 (upd H7 D (.lst (acc ++ [y]))) else Nx1 H6)
    else Nx H3)
end
end L2
namespace L2
open PySem PySem.Spec PyProof.Rows
section
variable {κ : Type} [DecidableEq κ]
def valV (kvs : List (κ × V)) (k : κ) : Option V := (kvs.find? fun kv => decide (kv.1 = k)).map (·.2)
/-- in its place, or at the end -/
def putK (kvs : List (κ × V)) (k : κ) (v : V) : List (κ × V) :=
  if (kvs.any fun kv => decide (kv.1 = k)) = true then kvs.map (fun kv => if kv.1 = k then (kv.1, v) else kv) else kvs ++ [(k, v)]
def dropK (kvs : List (κ × V)) (k : κ) : List (κ × V) := kvs.filter fun kv => decide (kv.1 ≠ k)
theorem valV_pos {p : κ × V} {r : List (κ × V)} {k : κ} (e : p.1 = k) : valV (p :: r) k = some p.2 := by simp [valV, List.find?_cons, e]
theorem valV_neg {p : κ × V} {r : List (κ × V)} {k : κ} (e : ¬ p.1 = k) : valV (p :: r) k = valV r k := by simp [valV, List.find?_cons, e]
theorem RelO.isSome_eq {o : Option V} {u : Option Value} (r : RelO o u) : o.isSome = u.isSome := by
  cases o with
  | none => cases u with
    | none => rfl
    | some _ => exact (show False from r).elim
  | some _ => cases u with
    | none => exact (show False from r).elim
    | some _ => rfl
theorem RelO.getD {o : Option V} {u : Option Value} {d : V} {d' : Value} (r : RelO o u) (rd : RelV d d') : RelV (o.getD d) (u.getD d') := by
  cases o with
  | none => cases u with
    | none => exact rd
    | some _ => exact (show False from r).elim
  | some _ => cases u with
    | none => exact (show False from r).elim
    | some _ => exact r
/-- raw tables of the same keys -/
theorem KV.val {kvs : List (κ × V)} {vs : List (κ × Value)} (r : KV kvs vs) (k : κ) : RelO (valV kvs k) (valueAt vs k) := by
  unfold KV at r
  induction r with
  | nil => exact True.intro
  | @cons p q ps qs h t ih =>
    obtain ⟨h1, h2⟩ := h
    by_cases e : p.1 = k
    · have e' : q.1 = k := h1.symm.trans e
      have b : valueAt (q :: qs) k = some q.2 := by simp [valueAt, List.find?_cons, e']
      rw [valV_pos e, b]; exact h2
    · have e' : ¬ q.1 = k := fun z => e (h1.trans z)
      have b : valueAt (q :: qs) k = valueAt qs k := by simp [valueAt, List.find?_cons, e']
      rw [valV_neg e, b]; exact ih
theorem KV.any {kvs : List (κ × V)} {vs : List (κ × Value)} (r : KV kvs vs) (k : κ) : (kvs.any fun kv => decide (kv.1 = k)) = vs.any fun kv => decide (kv.1 = k) := by
  unfold KV at r
  induction r with
  | nil => rfl
  | cons h t ih => rw [List.any_cons, List.any_cons, ih, h.1]
theorem KV.drop {kvs : List (κ × V)} {vs : List (κ × Value)} (r : KV kvs vs) (k : κ) : KV (dropK kvs k) (without vs k) := by
  unfold KV at r ⊢
  unfold dropK without
  induction r with
  | nil => exact .nil
  | @cons p q ps qs h t ih =>
    obtain ⟨h1, h2⟩ := h
    rw [List.filter_cons, List.filter_cons]
    by_cases e : p.1 = k
    · have a : ¬ decide (p.1 ≠ k) = true := by simp [e]
      have b : ¬ decide (q.1 ≠ k) = true := by simp [h1.symm.trans e]
      rw [if_neg a, if_neg b]; exact ih
    · have e' : ¬ q.1 = k := fun z => e (h1.trans z)
      have a : decide (p.1 ≠ k) = true := by simp [e]
      have b : decide (q.1 ≠ k) = true := by simp [e']
      rw [if_pos a, if_pos b]; exact .cons ⟨h1, h2⟩ ih
theorem KV.keys {kvs : List (κ × V)} {vs : List (κ × Value)} (r : KV kvs vs) : kvs.map (·.1) = vs.map (·.1) := by
  unfold KV at r
  induction r with
  | nil => rfl
  | cons h t ih => rw [List.map_cons, List.map_cons, ih, h.1]
theorem KV.length {kvs : List (κ × V)} {vs : List (κ × Value)} (r : KV kvs vs) : kvs.length = vs.length := Paired.length r
end
theorem kV_is {P : Program} {w : World} {k : Key} {u : Value} (r : RelV (kV k) u) : (mixKind P w).is k u = true := by
  cases k with
  | inl i => obtain ⟨t, e⟩ := (show ∃ t, u = Value.int i t from r); subst e; exact mixKind_int P w i t
  | inr x => obtain ⟨t, e⟩ := (show ∃ t, u = Value.str x t from r); subst e; exact mixKind_str P w x t
/-- raw entries of a dict with tuple keys -/
abbrev KT (H : Hp) : List (List Key × V) → List (List Key × Addr × Value) → Prop := Paired fun p q => p.1 = q.1 ∧ H q.2.1 = some (.tup (p.1.map kV)) ∧ RelV p.2 q.2.2
theorem KT.val {H : Hp} {kvs : List (List Key × V)} {xs : List (List Key × Addr × Value)} (r : KT H kvs xs) (k : List Key) : RelO (valV kvs k) ((atKey xs k).map (·.2)) := by
  induction r with
  | nil => exact True.intro
  | @cons p q ps qs h t ih =>
    obtain ⟨h1, _, h2⟩ := h
    by_cases e : p.1 = k
    · have e' : q.1 = k := h1.symm.trans e
      have b : atKey (q :: qs) k = some q.2 := by simp [atKey, List.find?_cons, e']
      rw [valV_pos e, b]; exact h2
    · have e' : ¬ q.1 = k := fun z => e (h1.trans z)
      have b : atKey (q :: qs) k = atKey qs k := by simp [atKey, List.find?_cons, e']
      rw [valV_neg e, b]; exact ih
theorem KT.keeps {H H' : Hp} {kvs : List (List Key × V)} {xs : List (List Key × Addr × Value)} (r : KT H kvs xs) (ht : ∀ b ys, H b = some (.tup ys) → H' b = some (.tup ys)) : KT H' kvs xs :=
  Paired.mapP r fun _ _ z => ⟨z.1, ht _ _ z.2.1, z.2.2⟩
section
variable {P : Program} {w : World} {H : Hp} {h : Heap} {a : Addr}
theorem rd_of {u : HO} (ok : HOk P w H h) (e : Rd H a u) : ObjOk P w H h a u := e.ok ok
theorem dk_rd {kvs : List (Key × V)} (ok : HOk P w H h) (e : Rd H a (.dK kvs)) : kvs.length ≤ sizeLine ∧ (a == sysModules) = false ∧ ∃ vs, KV kvs vs ∧ h.DictOf (mixKind P w) a vs :=
  show ObjOk P w H h a (.dK kvs) from rd_of ok e
end
/-- what the dict at a holds at the key y -/
def DGet (H : Hp) (a : Addr) (y : V) (r : Option V) : Prop :=
  (∃ kvs k, Rd H a (.dK kvs) ∧ y = kV k ∧ r = valV kvs k) ∨ ∃ kvs k b, Rd H a (.dT kvs) ∧ y = .ref b ∧ H b = some (.tup (k.map kV)) ∧ r = valV kvs k
/-- the heap behind a[y] = v -/
def DPut (H : Hp) (a : Addr) (y v : V) (H' : Hp) : Prop :=
  (∃ kvs k, H a = some (.dK kvs) ∧ y = kV k ∧ kvs.length < sizeLine ∧ H' = upd H a (.dK (putK kvs k v))) ∨
  ∃ kvs k b, H a = some (.dT kvs) ∧ y = .ref b ∧ H b = some (.tup (k.map kV)) ∧ kvs.length < sizeLine ∧ H' = upd H a (.dT (putK kvs k v))
theorem DGet.k {H : Hp} {a : Addr} {kvs : List (Key × V)} {k : Key} (e : H a = some (.dK kvs)) : DGet H a (kV k) (valV kvs k) := .inl ⟨kvs, k, .inl e, rfl, rfl⟩
theorem DGet.t {H : Hp} {a b : Addr} {kvs : List (List Key × V)} {k : List Key} (e : H a = some (.dT kvs)) (eb : H b = some (.tup (k.map kV))) : DGet H a (.ref b) (valV kvs k) := .inr ⟨kvs, k, b, .inl e, rfl, eb, rfl⟩
theorem DPut.k {H : Hp} {a : Addr} {kvs : List (Key × V)} {k : Key} {v : V} (e : H a = some (.dK kvs)) (hl : kvs.length < sizeLine) : DPut H a (kV k) v (upd H a (.dK (putK kvs k v))) := .inl ⟨kvs, k, e, rfl, hl, rfl⟩
theorem DPut.t {H : Hp} {a b : Addr} {kvs : List (List Key × V)} {k : List Key} {v : V} (e : H a = some (.dT kvs)) (eb : H b = some (.tup (k.map kV))) (hl : kvs.length < sizeLine) :
    DPut H a (.ref b) v (upd H a (.dT (putK kvs k v))) := .inr ⟨kvs, k, b, e, rfl, eb, hl, rfl⟩
section
variable {X : Cx} {pins : List (Addr × Obj)} {σ : St} {H : Hp} {s : Shared} {a : Addr} {y v : V} {u r : Value} {o : Option V} {A : Around} {E : Value → Shared → Prop}
theorem Inv.big (I : Inv X pins σ H s) : sysModules < s.heap.objs.size := by
  have h : mainGlobals < s.heap.objs.size := (I.mod.glob.keeps I.bk).lt
  exact Nat.lt_trans (by decide) h
end
section
variable {X : Cx} {pins : List (Addr × Obj)} {σ : St} {H : Hp} {s : Shared} {a : Addr} {kvs : List (Key × V)} {k : Key} {u : Value} {A : Around} {E : Value → Shared → Prop}
end
/-- the element of a subscription, not a slice -/
def NoSl (i : Expr) : Prop := ∀ ov iv, subscripted i false ov iv = operate [ov, iv] (getItem ov iv)
/-- d[y] -/
def tDGet (td ty : TE) : TE := fun σ H Q => td σ H fun x H1 => ty σ H1 fun y H2 => ∃ a v, x = .ref a ∧ DGet H2 a y (some v) ∧ Q v H2
/-- y in d, y not in d -/
def tDIn (ty td : TE) : TE := fun σ H Q => ty σ H fun y H1 => td σ H1 fun x H2 => ∃ a o, x = .ref a ∧ DGet H2 a y o ∧ Q (.bl o.isSome) H2
def tDNotIn (ty td : TE) : TE := fun σ H Q => ty σ H fun y H1 => td σ H1 fun x H2 => ∃ a o, x = .ref a ∧ DGet H2 a y o ∧ Q (.bl (!o.isSome)) H2
/-- d[y] = v -/
def sDPut (td ty tv : TE) : TS := fun D σ H => tv σ H fun v H1 => td σ H1 fun x H2 => ty σ H2 fun y H3 => ∃ a H4, x = .ref a ∧ DPut H3 a y v H4 ∧ D.nx σ H4
/-- d[y] op= v -/
def sDAug (td ty tv : TE) (rd : V → V → Hp → VK → Prop) : TS := fun D σ H => td σ H fun x H1 => ty σ H1 fun y H2 => ∃ a v, x = .ref a ∧ DGet H2 a y (some v) ∧
  tv σ H2 fun y2 H3 => rd v y2 H3 fun z H4 => ∃ H5, DPut H4 a y z H5 ∧ D.nx σ H5
/-- del d[y] -/
def sDDel (td ty : TE) : TS := fun D σ H => td σ H fun x H1 => ty σ H1 fun y H2 => ∃ a kvs k, x = .ref a ∧ H2 a = some (.dK kvs) ∧ y = kV k ∧ (valV kvs k).isSome = true ∧ D.nx σ (upd H2 a (.dK (dropK kvs k)))
section
variable {X : Cx} {o i e value : Expr} {pos pos' tpos : Pos} {td ty tv : TE}
end
theorem dk_empty {P : Program} {w : World} {H : Hp} (h : Heap) (hb : sysModules < h.objs.size) : ObjOk P w H (h.push { cls := .type "dict", data := .dict #[] }) h.objs.size (.dK []) :=
  ⟨Nat.zero_le _, beq_eq_false_iff_ne.mpr (Ne.symm (Nat.ne_of_lt hb)), [], .nil, Heap.DictOf.new h⟩
/-- {}, to be a dict of the kind that is wanted -/
def tDNewK : TE := fun _ H Q => ∀ p, H p = none → Q (.ref p) (upd H p (.dK []))
def tDNewT : TE := fun _ H Q => ∀ p, H p = none → Q (.ref p) (upd H p (.dT []))
section
variable {X : Cx} {pos : Pos}
theorem pe_dnewK : PE X (.Dict [] [] pos) tDNewK := fun pins s σ H Q I h =>
  wpAny_Dict_empty ⟨.ref s.heap.objs.size, _, I.laid (a := s.heap.objs.size) (o := .dK []) (t' := s.toks) (fun _ _ q => Heap.get?_push_of_some _ q) (Nat.le_refl _) (dk_empty s.heap I.big), rfl, h _ (I.hok.fresh (Nat.le_refl _))⟩
end
/-- the pairs of a display, from the left -/
def tPairs : List (TE × TE) → St → Hp → (List (V × V) → Hp → Prop) → Prop
  | [], _, H, Q => Q [] H
  | (tk, tv) :: r, σ, H, Q => tk σ H fun x H1 => tv σ H1 fun y H2 => tPairs r σ H2 fun ps H3 => Q ((x, y) :: ps) H3
abbrev VV : List (V × V) → List (Value × Value) → Prop := Paired fun p q => RelV p.1 q.1 ∧ RelV p.2 q.2
def PPs (X : Cx) (pos : Pos) (keys : List (Option Expr)) (values : List Expr) (trs : List (TE × TE)) : Prop :=
  ∀ (pins : List (Addr × Obj)) (s : Shared) (σ : St) (H : Hp) (Q : List (V × V) → Hp → Prop), Inv X pins σ H s → tPairs trs σ H Q →
    wpAny (model X.prog X.w) X.A (evalPairs (pairTrees keys values X.env pos)) (fun vs s' => ∃ ps H', Inv X pins σ H' s' ∧ VV ps vs ∧ Q ps H') X.xe s
def mergeK (kvs more : List (Key × V)) : List (Key × V) := more.foldl (fun acc kv => putK acc kv.1 kv.2) kvs
/-- {k: v, ..} with keys ints and texts; the new dict stands empty while the pairs are made -/
def tDisp (trs : List (TE × TE)) : TE := fun σ H Q => ∀ p, H p = none → tPairs trs σ (upd H p (.dK [])) fun ps H2 => H2 p = some (.dK []) ∧ ∃ kvs : List (Key × V), ps = kvs.map (fun kv => (kV kv.1, kv.2)) ∧ kvs.length ≤ 15 ∧ Q (.ref p) (upd H2 p (.dK (mergeK [] kvs)))
/-- a method call o.m(e) of a built-in, with one argument: what must be seen of the text -/
structure M1 (X : Cx) (o : Expr) (m : Str) (apos : Pos) (e : Expr) (cpos : Pos) : Prop where
  base : attributeBase o m X.env (eval o X.env) = eval o X.env
  few : ((backTo cpos (starEach [e] X.env)).all (fun x => !x.1) && (backToKw cpos (keywordEach [] X.env)).all (fun x => x.1.isSome)
    && decide (([e] : List Expr).length + ([] : List Keyword).length + (if ([] : List Keyword).isEmpty then 0 else 1) < 30)) = true
  line : (apos.endLine == cpos.line) = true
  trees : backTo cpos (starEach [e] X.env) = [(false, eval e X.env)]
structure M2 (X : Cx) (o : Expr) (m : Str) (apos : Pos) (e f : Expr) (cpos : Pos) : Prop where
  base : attributeBase o m X.env (eval o X.env) = eval o X.env
  few : ((backTo cpos (starEach [e, f] X.env)).all (fun x => !x.1) && (backToKw cpos (keywordEach [] X.env)).all (fun x => x.1.isSome)
    && decide (([e, f] : List Expr).length + ([] : List Keyword).length + (if ([] : List Keyword).isEmpty then 0 else 1) < 30)) = true
  line : (apos.endLine == cpos.line) = true
  trees : backTo cpos (starEach [e, f] X.env) = [(false, eval e X.env), (false, eval f X.env)]
/-- a is a dict, whatever its keys -/
def IsD (H : Hp) (a : Addr) : Prop := (∃ kvs, Rd H a (.dK kvs)) ∨ ∃ kvs, Rd H a (.dT kvs)
section
variable {X : Cx} {pins : List (Addr × Obj)} {σ : St} {H : Hp} {s : Shared} {a : Addr} {y d : V} {u r : Value} {o : Option V} {A : Around} {E : Value → Shared → Prop}
end
def tDGet1 (td ty : TE) : TE := fun σ H Q => td σ H fun x H1 => ∃ a, x = .ref a ∧ IsD H1 a ∧ ty σ H1 fun y H2 => ∃ o, DGet H2 a y o ∧ Q (o.getD .non) H2
def tDGet2 (td ty tx : TE) : TE := fun σ H Q => td σ H fun x H1 => ∃ a, x = .ref a ∧ IsD H1 a ∧ ty σ H1 fun y H2 => tx σ H2 fun z H3 => ∃ o, DGet H3 a y o ∧ Q (o.getD z) H3
/-- d.pop(k): there; d.pop(k, x): there or not -/
def tDPop1 (td ty : TE) : TE := fun σ H Q => td σ H fun x H1 => ∃ a, x = .ref a ∧ IsD H1 a ∧ ty σ H1 fun y H2 => ∃ kvs k v, H2 a = some (.dK kvs) ∧ y = kV k ∧ valV kvs k = some v ∧ Q v (upd H2 a (.dK (dropK kvs k)))
def tDPop2 (td ty tx : TE) : TE := fun σ H Q => td σ H fun x H1 => ∃ a, x = .ref a ∧ IsD H1 a ∧ ty σ H1 fun y H2 => tx σ H2 fun z H3 => ∃ kvs k, H3 a = some (.dK kvs) ∧ y = kV k ∧
  (∀ v, valV kvs k = some v → Q v (upd H3 a (.dK (dropK kvs k)))) ∧ (valV kvs k = none → Q z H3)
section
variable {X : Cx} {o e f : Expr} {apos cpos : Pos} {td ty tx : TE}
end
section
variable {X : Cx} {pins : List (Addr × Obj)} {σ : St} {H : Hp} {s : Shared} {a : Addr} {kvs : List (Key × V)} {A : Around} {E : Value → Shared → Prop}
end
section
variable {X : Cx} {pins : List (Addr × Obj)} {σ : St} {H : Hp} {s : Shared} {a : Addr} {y : V} {u : Value} {A : Around} {E : Value → Shared → Prop}
end
end L2
namespace L2
open PySem PySem.Spec PyProof.Rows
theorem ud_entry : entryFor table "dict.update.loop" = some Builtin.«dict.update.loop» := entryFor_of_tree (by kernel_rfl)
theorem ud_plain : plainId "dict.update.loop" = true := by decide +kernel
section
variable {prog : Program} {w : World} {A : Around} {E : Value → Shared → Prop}
end
section
variable {X : Cx}
end
end L2
namespace L2
open PySem PySem.Spec PyProof.Rows
section
variable {X : Cx} {pins : List (Addr × Obj)} {σ : St} {H : Hp} {s : Shared} {h' : Heap}
/-- .. and one new object is laid -/
theorem Inv.turnedNew {t' : Nat} {ch : List Addr} {T : Addr} {ob : HO} (I : Inv X pins σ H s) (k : ∀ b o, b ∉ ch → s.heap.get? b = some o → h'.get? b = some o) (hf : ∀ b ∈ ch, FpOk X pins H b) (hT : s.heap.objs.size ≤ T)
    (new : ObjOk X.prog X.w (upd H T ob) h' T ob) : Inv X pins σ (upd H T ob) { s with heap := h', toks := t' } := by
  have hn : H T = none := I.hok.fresh hT
  have nit : ∀ b u, H b = some u → b ∉ ch := fun b u e z => by
    have q := (hf b z).1
    rw [q] at e; cases e
  refine I.step (g' := s.gens) (d' := s.drawn) (ch := ch) (fun b hb => ⟨(hf b hb).2.2.2.1, (hf b hb).2.1, (hf b hb).2.2.2.2.1, (hf b hb).2.2.2.2.2⟩) (fun b o _ _ hc e _ => k b o hc e) (fun b o _ _ hc e _ => ⟨o.slots, k b o hc e⟩)
    (fun b o _ e n => ?_) (fun b o hc e => ⟨o, k b o hc e⟩) (fun b xs e => ?_) (fun b o u e => ?_) (fun b ps e => ⟨#[], ?_⟩) (fun m hm => ?_) (fun b u e => ?_) I.bare
  · rw [upd_ne (Nat.ne_of_lt (Nat.lt_of_lt_of_le (Heap.lt_size e) hT))]; exact n
  · rw [upd_ne (ne_of_none e hn)]; exact e
  · rw [upd_ne (ne_of_none e hn)]; exact e
  · rw [upd_ne (ne_of_none e hn), e]; simp
  · obtain ⟨o, es, ep, ho, r⟩ := hm
    exact ⟨o, es, ep, k _ o (fun z => (hf _ z).2.1 rfl) ho, r⟩
  · by_cases hb : b = T
    · subst hb
      rw [upd_same] at e
      cases e
      exact new
    · rw [upd_ne hb] at e
      refine (I.hok b u e).stay (fun c v hc q => k c v ?_ q) (fun c q => by rw [upd_ne (ne_of_none q hn)]; exact q) fun c xs q => by rw [upd_ne (ne_of_none q hn)]; exact q
      rcases hc with z | z
      · rw [z]; exact nit b u e
      · exact nit c _ z
end
/-- the statement runs while the thing at d is locked (read, not written); d and what stands there are the reading's choice -/
def tLock (t : TS) : TS := fun D σ H => ∃ d u, H d = some u ∧ Mut (some u) ∧ ∀ od, t ⟨fun σ' H' => H' d = some (.frz od u) ∧ D.nx σ' (upd H' d u), fun v H' => H' d = some (.frz od u) ∧ D.rt v (upd H' d u), fun σ' H' => H' d = some (.frz od u) ∧ D.bk σ' (upd H' d u), fun σ' H' => H' d = some (.frz od u) ∧ D.ct σ' (upd H' d u)⟩ σ (upd H d (.frz od u))
def tLockE (t : TE) : TE := fun σ H Q => ∃ d u, H d = some u ∧ Mut (some u) ∧ ∀ od, t σ (upd H d (.frz od u)) fun v H' => H' d = some (.frz od u) ∧ Q v (upd H' d u)
section
variable {X : Cx}
theorem pi_one {tg : Expr} {pins : List (Addr × Obj)} {σ : St} {H : Hp} {s : Shared} {R : It → Hp → Prop} {J : It} {tn : Nat → Heap → Prop} {tk : Nat} (I : Inv X pins σ H s) (o : Obj)
    (T : Turn X.prog X.w X.K tg J [s.heap.objs.size] s.heap.objs.size tn) (st : tn 0 (s.heap.push o)) (q : R J H) : PIE X pins σ tg R (.ref s.heap.objs.size) { s with heap := s.heap.push o, toks := tk } := by
  refine ⟨s.heap.objs.size, [s.heap.objs.size], tn, J, H, rfl, I.kept fun b ob e => Heap.get?_push_of_some _ e, T, st, fun b hb => ?_, q⟩
  have e : b = s.heap.objs.size := by simpa using hb
  subst e
  exact I.fpOk (Nat.le_refl _) (I.hok.fresh (Nat.le_refl _))
end
/-- lo, lo + c, .. (n of them) -/
def Itc (lo c : Int) (n : Nat) : It := ⟨fun i _ => i < n, fun i H x H' => H' = H ∧ x = .int (lo + (i : Nat) * c), fun i _ => n ≤ i⟩
/-- range(i, j, c): small bounds, n items -/
def RgC (i j c : Int) (n : Nat) : Prop := c ≠ 0 ∧ c.natAbs < 1073741824 ∧ Builtin.Range.small i j c = true ∧ Builtin.Range.rangeSize i j c = n
theorem RgC.neg {i j : Int} (ha : -(2 ^ 62) ≤ i) (ha' : i < 2 ^ 62) (hb : -(2 ^ 62) ≤ j) (hb' : j < 2 ^ 62) : RgC i j (-1) (i - j).toNat :=
  ⟨by decide, by decide, PySem.W.small_down ha ha' hb hb', PySem.W.rangeSize_downNat i j⟩
def iRng3 (ta : TA) : TI := fun σ H R => ta σ H fun vs H1 => ∃ (i j c : Int) (n : Nat), vs = [.int i, .int j, .int c] ∧ RgC i j c n ∧ R (Itc i c n) H1
section
variable {X : Cx} {tg : Expr}
end
/-- the list at a (n items at the start, which the loop leaves there), from its end -/
def Itv (K : PySem.W.Frag) (a : Addr) (n : Nat) : It :=
  ⟨fun i H => i < n ∧ ∃ (xs : List V) (x : V), SqL K H a xs ∧ xs[n - 1 - i]? = some x, fun i H x H' => H' = H ∧ ∀ xs, SqL K H a xs → xs[n - 1 - i]? = some x, fun i _ => n ≤ i⟩
def iRev (K : PySem.W.Frag) (ta : TA) : TI := fun σ H R => ta σ H fun vs H1 => ∃ (a : Addr) (xs : List V), vs = [.ref a] ∧ SqL K H1 a xs ∧ R (Itv K a xs.length) H1
section
variable {X : Cx} {tg : Expr}
end
def Its (x : Str) : It := ⟨fun i _ => i < x.cps.size, fun i H v H' => H' = H ∧ ∃ c, x.cps[i]? = some c ∧ v = .str ⟨#[c]⟩, fun i _ => x.cps.size ≤ i⟩
theorem turn_str {P : Program} {w : World} {K : PySem.W.Frag} {tg : Expr} (it : Addr) (x : Str) (t : Tok) (ty : String) (hty : ty = "str_ascii_iterator" ∨ ty = "str_iterator") :
    Turn P w K tg (Its x) [it] it (fun i h => h.IsStrIter it ty x t i) where
  mem := by simp
  obj := fun i h st b hb => by
    have e : b = it := by simpa using hb
    subst e
    obtain ⟨o, e, c, d⟩ := st
    exact ⟨o, e, fun v z => by rw [d] at z; cases z⟩
  keep := fun i h h' st k => let ⟨o, ho, r⟩ := st; ⟨o, k it (by simp) o ho, r⟩
  item := by
    intro X hP hw hK hc i pins s σ H E I hf st hg
    subst hP hw hK
    obtain ⟨f0, f1, f2, f3, f4, f5⟩ := hf it (by simp)
    have W : Walks X.prog X.w X.A it [it] [it] x.cps.size (SignAt x) (fun i h => h.IsStrIter it ty x t i) := by
      rcases hty with e | e
      · rw [e]; exact Walks.strAscii (I.ok.hd hc) it x t
      · rw [e]; exact Walks.strWide (I.ok.hd hc) it x t
    have hno : ["enumerate", "zip", "dict_itemiterator", "dict_reverseitemiterator", "odict_iterator", "itertools.zip_longest", "itertools.pairwise"].contains ty = false := by
      rcases hty with e | e
      · rw [e]; decide
      · rw [e]; decide
    refine W.item i s _ _ hg st fun v h' tk hv st' kk => ?_
    obtain ⟨c, u, hcx, rfl⟩ := hv
    have I1 : Inv X pins σ H { s with heap := h', toks := tk } := I.turned (fun b o hb e => kk b o (by simpa using hb) e) f0 f1 f3 f4 f5
    obtain ⟨oi, e, cc, dd⟩ := id st'
    exact ⟨_, rfl, go_of (s := { s with heap := h', toks := tk }) e cc dd hno ⟨.str ⟨#[c]⟩, H, I1, ⟨u, rfl⟩, ⟨rfl, c, hcx, rfl⟩, st', fun b hb => (hf b hb).1⟩⟩
  done := by
    intro X hP hw hK hc i pins s σ H E I hf st hg
    subst hP hw hK
    obtain ⟨f0, f1, f2, f3, f4, f5⟩ := hf it (by simp)
    have hx : x.cps[i]? = none := Array.getElem?_eq_none hg
    rcases hty with e | e
    · rw [e] at st
      exact wpAny_pyNext_ascii_end (I.ok.hd hc) st hx fun h' eb => ⟨rfl, I.turned (t' := s.toks) (fun b o hb e => eb b o hb e) f0 f1 f3 f4 f5⟩
    · rw [e] at st
      exact wpAny_pyNext_wide_end (I.ok.hd hc) st hx fun h' eb => ⟨rfl, I.turned (t' := s.toks) (fun b o hb e => eb b o hb e) f0 f1 f3 f4 f5⟩
  self := fun A i s Q E st h => by
    rcases hty with e | e
    · rw [e] at st; exact wpAny_pyIter_striter_ascii st h
    · rw [e] at st; exact wpAny_pyIter_striter_wide st h
def iStr (te : TE) : TI := fun σ H R => te σ H fun v H1 => ∃ x, v = .str x ∧ R (Its x) H1
theorem pi_str {X : Cx} {tg e : Expr} {te : TE} (he : PE X e te) : PI X tg e (iStr te) := by
  intro pins s σ H R I h
  refine thn (he pins s σ H _ I h) fun v s1 ⟨y, H1, I1, r1, x, ex, q⟩ => ?_
  subst ex
  obtain ⟨t, rfl⟩ := r1
  cases ha : x.cps.all (· < 128)
  · exact wpAny_pyIter_wide ha (pi_one (tk := s1.toks) I1 _ (turn_str _ x t "str_iterator" (.inr rfl)) ⟨_, Heap.get?_push_size _ rfl, rfl, rfl⟩ q)
  · exact wpAny_pyIter_ascii ha (pi_one (tk := s1.toks) I1 _ (turn_str _ x t "str_ascii_iterator" (.inl rfl)) ⟨_, Heap.get?_push_size _ rfl, rfl, rfl⟩ q)
section
variable {prog : Program} {w : World} {A : Around} {E : Value → Shared → Prop} {s : Shared}
end
section
variable {X : Cx} {pins : List (Addr × Obj)} {σ : St} {H : Hp} {s : Shared} {d : Addr} {o : Obj}
end
/-- the keys of the locked dict at d, in their order -/
def Itk (d : Addr) (o : Obj) (kvs : List (Key × V)) : It :=
  ⟨fun i H => H d = some (.frz o (.dK kvs)) ∧ i < kvs.length, fun i H x H' => H' = H ∧ ∃ k v, kvs[i]? = some (k, v) ∧ x = kV k, fun i H => H d = some (.frz o (.dK kvs)) ∧ kvs.length ≤ i⟩
/-- .. of tuple keys: the key's own tuple -/
def Itkt (d : Addr) (o : Obj) (kvs : List (List Key × V)) : It :=
  ⟨fun i H => H d = some (.frz o (.dT kvs)) ∧ i < kvs.length, fun i H x H' => H' = H ∧ ∃ (k : List Key) (v : V) (q : Addr), kvs[i]? = some (k, v) ∧ x = .ref q ∧ H q = some (.tup (k.map kV)), fun i H => H d = some (.frz o (.dT kvs)) ∧ kvs.length ≤ i⟩
/-- the values -/
def Itd (d : Addr) (o : Obj) (kvs : List (Key × V)) : It :=
  ⟨fun i H => H d = some (.frz o (.dK kvs)) ∧ i < kvs.length, fun i H x H' => H' = H ∧ ∃ k, kvs[i]? = some (k, x), fun i H => H d = some (.frz o (.dK kvs)) ∧ kvs.length ≤ i⟩
/-- the pairs, each a new tuple -/
def Iti (d : Addr) (o : Obj) (kvs : List (Key × V)) : It :=
  ⟨fun i H => H d = some (.frz o (.dK kvs)) ∧ i < kvs.length, fun i H x H' => ∃ T k v, kvs[i]? = some (k, v) ∧ x = .ref T ∧ H T = none ∧ H' = upd H T (.tup [kV k, v]), fun i H => H d = some (.frz o (.dK kvs)) ∧ kvs.length ≤ i⟩
section
variable {P : Program} {w : World} {K : PySem.W.Frag} {tg : Expr} {d : Addr} {o : Obj} {es : Array DictEntry} {ep : Nat}
end
/-- the dict is locked (tLock, or by the caller) -/
def iKeys (td : TE) : TI := fun σ H R => td σ H fun x H1 => ∃ d o, x = .ref d ∧ ((∃ kvs, H1 d = some (.frz o (.dK kvs)) ∧ R (Itk d o kvs) H1) ∨ ∃ kvs, H1 d = some (.frz o (.dT kvs)) ∧ R (Itkt d o kvs) H1)
def iVals (td : TE) : TI := fun σ H R => td σ H fun x H1 => ∃ d o kvs, x = .ref d ∧ H1 d = some (.frz o (.dK kvs)) ∧ R (Itd d o kvs) H1
def iItems (td : TE) : TI := fun σ H R => td σ H fun x H1 => ∃ d o kvs, x = .ref d ∧ H1 d = some (.frz o (.dK kvs)) ∧ R (Iti d o kvs) H1
def iKeysM (td : TE) : TI := fun σ H R => td σ H fun x H1 => ∃ d o kvs, x = .ref d ∧ H1 d = some (.frz o (.dK kvs)) ∧ R (Itk d o kvs) H1
section
variable {X : Cx} {tg e : Expr} {td : TE} {apos cpos : Pos}
end
/-- the list at a as it stands at each turn, each item in a new pair -/
def Ite (K : PySem.W.Frag) (a : Addr) : It :=
  ⟨fun i H => ∃ (xs : List V) (x : V), SqL K H a xs ∧ xs[i]? = some x, fun i H v H' => ∃ T x, v = .ref T ∧ H T = none ∧ H' = upd H T (.tup [.int (i : Nat), x]) ∧ ∀ xs, SqL K H a xs → xs[i]? = some x, fun i H => ∃ xs : List V, SqL K H a xs ∧ xs.length ≤ i⟩
theorem turn_enum {P : Program} {w : World} {K : PySem.W.Frag} {elts : List Expr} {kk : Nat} {tpos : Pos} (a e it : Addr) :
    Turn P w K (.Tuple elts kk tpos) (Ite K a) [e, it] e (fun i h => (∃ old, IsEnum h e it ((i : Nat) : Int) old) ∧ h.IsListIter it a i ∧ e ≠ it) where
  mem := by simp
  obj := fun i h st b hb => by
    obtain ⟨⟨old, he⟩, ⟨o, ho, hc, hd⟩, _⟩ := st
    have e' : b = e ∨ b = it := by simpa using hb
    rcases e' with z | z
    · rw [z]; exact ⟨_, he, fun v q => nomatch q⟩
    · rw [z]; exact ⟨o, ho, fun v q => by rw [hd] at q; cases q⟩
  keep := fun i h h' st k => let ⟨⟨old, he⟩, hi, hne⟩ := st; ⟨⟨old, k e (by simp) _ he⟩, hi.at fun o q => k it (by simp) o q, hne⟩
  item := by
    intro X hP hw hK hc i pins s σ H E I hf st hg
    subst hP hw hK
    obtain ⟨⟨old, he⟩, hit, hne⟩ := st
    obtain ⟨xs, x, hq, hx⟩ := hg
    obtain ⟨its, rv, p, hz⟩ := I.list hq
    obtain ⟨u, hu, ru⟩ := rv.get hx
    have hel : e < s.heap.objs.size := Heap.lt_size he
    have hil : it < s.heap.objs.size := by obtain ⟨_, q, _⟩ := hit; exact Heap.lt_size q
    refine wpAny_pyNext_enum_item he hit p.isList (x := u) (by simpa using hu) hne fun h' ho hit' hT hsz hk => ?_
    refine ⟨_, rfl, wpAny_letOwnedTupleGo_enum (s := { s with heap := h', toks := s.toks + 1 }) ho fun h'' he' sb => ?_⟩
    have hT2 : h''.get? s.heap.objs.size = some { cls := .type "tuple", data := .seq #[.int i s.toks, u] } := (sb.2 _ (Nat.ne_of_gt hel)).trans hT
    have new : ObjOk X.prog X.w (upd H s.heap.objs.size (.tup [.int (i : Nat), x])) h'' s.heap.objs.size (.tup [.int (i : Nat), x]) :=
      ⟨by show 2 ≤ sizeLine; decide, [.int i s.toks, u], .cons ⟨_, rfl⟩ (.cons ru .nil), ⟨_, hT2, rfl, _, rfl⟩⟩
    have I1 : Inv X pins σ (upd H s.heap.objs.size (.tup [.int (i : Nat), x])) { s with heap := h'', toks := s.toks + 1 } :=
      I.turnedNew (ch := [e, it]) (fun b ob hb q => (sb.2 b (fun z => hb (by simp [z]))).trans (hk b ob (fun z => hb (by simp [z])) (fun z => hb (by simp [z])) q)) hf (Nat.le_refl _) new
    refine ⟨.ref s.heap.objs.size, _, I1, rfl, ⟨_, x, rfl, I.hok.fresh (Nat.le_refl _), rfl, fun ys hy => by rw [I.list_inj hy hq]; exact hx⟩, ⟨⟨u, ?_⟩, hit'.at fun o q => (sb.2 it (Ne.symm hne)).trans q, hne⟩, fun b hb => ?_⟩
    · have e1 : ((i + 1 : Nat) : Int) = (i : Int) + 1 := by omega
      rw [e1]; exact he'
    · have hb' : b < s.heap.objs.size := by
        have e' : b = e ∨ b = it := by simpa using hb
        rcases e' with z | z
        · rw [z]; exact hel
        · rw [z]; exact hil
      rw [upd_ne (Nat.ne_of_lt hb')]
      exact (hf b hb).1
  done := by
    intro X hP hw hK hc i pins s σ H E I hf st hg
    subst hP hw hK
    obtain ⟨⟨old, he⟩, hit, hne⟩ := st
    obtain ⟨xs, hq, hx⟩ := hg
    obtain ⟨its, rv, p, hz⟩ := I.list hq
    obtain ⟨f0, f1, f2, f3, f4, f5⟩ := hf it (by simp)
    have hl := rv.length
    exact wpAny_pyNext_enum_end (I.ok.hd hc) he hit p.isList (by simp; omega) fun h' eb => ⟨rfl, I.turned (t' := s.toks) (fun b o hb q => eb b o hb q) f0 f1 f3 f4 f5⟩
  self := fun A i s Q E st h => let ⟨⟨_, he⟩, _⟩ := st; wpAny_pyIter_enum he h
def iEnum (K : PySem.W.Frag) (ta : TA) : TI := fun σ H R => ta σ H fun vs H1 => ∃ a xs, vs = [.ref a] ∧ SqL K H1 a xs ∧ R (Ite K a) H1
theorem pi_enum {X : Cx} {e : Expr} {ta : TA} {p pos tpos : Pos} {elts : List Expr} {kk : Nat} (hg : Gl X "enumerate") (hm : X.mg "enumerate" = none) (ha : PA X [e] ta) (hs : starEach [e] X.env = [(false, eval e X.env)] := by rfl) :
    PI X (.Tuple elts kk tpos) (.Call (.Name "enumerate" p) [e] [] pos) (iEnum X.K ta) := by
  intro pins s σ H R I h
  refine Call_ (ld_blt I hg hm boot_enumerate (PyProof.Rows.callWith_type1 (thn (ha pos pins s σ H _ I h) fun us s1 ⟨vs, H1, I1, r1, q1⟩ => ?_) hs rfl))
  obtain ⟨a, xs, ex, hq, q⟩ := q1
  subst ex
  cases r1 with
  | cons r rr =>
    cases rr
    cases r
    obtain ⟨its, rv, p', hz⟩ := I1.list hq
    refine call_enumerate_list p'.isList fun h' he hit hsz hk => wpAny_pyIter_enum he ?_
    have I2 : Inv X pins σ H1 { s1 with heap := h' } := I1.kept (t' := s1.toks) hk
    refine ⟨s1.heap.objs.size + 1, [s1.heap.objs.size + 1, s1.heap.objs.size], _, _, H1, rfl, I2, turn_enum a (s1.heap.objs.size + 1) s1.heap.objs.size, ⟨⟨.none, he⟩, hit, Nat.succ_ne_self _⟩, fun b hb => ?_, q⟩
    have e' : b = s1.heap.objs.size + 1 ∨ b = s1.heap.objs.size := by simpa using hb
    have hle : s1.heap.objs.size ≤ b := by
      rcases e' with z | z
      · rw [z]; exact Nat.le_add_right _ _
      · rw [z]; exact Nat.le_refl _
    exact I1.fpOk hle (I1.hok.fresh hle)
/-- the lists at a and b as they stand at each turn, the items in new pairs -/
def Itz (K : PySem.W.Frag) (a b : Addr) : It :=
  ⟨fun i H => ∃ (xs ys : List V) (x y : V), SqL K H a xs ∧ SqL K H b ys ∧ xs[i]? = some x ∧ ys[i]? = some y,
    fun i H v H' => ∃ T x y, v = .ref T ∧ H T = none ∧ H' = upd H T (.tup [x, y]) ∧ (∀ xs, SqL K H a xs → xs[i]? = some x) ∧ ∀ ys, SqL K H b ys → ys[i]? = some y,
    fun i H => ∃ xs ys : List V, SqL K H a xs ∧ SqL K H b ys ∧ (xs.length ≤ i ∨ ys.length ≤ i)⟩
def iZip (K : PySem.W.Frag) (ta : TA) : TI := fun σ H R => ta σ H fun vs H1 => ∃ a b xs ys, vs = [.ref a, .ref b] ∧ SqL K H1 a xs ∧ SqL K H1 b ys ∧ R (Itz K a b) H1
end L2
section 
namespace Bits
open PySem PyProof.Rows
end Bits
end 
section 
namespace TL
open PySem PySem.Builtin PySem.Builtin.Str PySem.StrLaws
abbrev tl (x : Str) : List Nat := x.cps.toList
/-- S stands at the head of l -/
def pre (S l : List Nat) : Bool := l.take S.length == S
/-- l cut at each S from the left; k signs are still to be passed over -/
def spl (S : List Nat) : Nat → List Nat → List Nat → List (List Nat)
  | _, acc, [] => [acc]
  | 0, acc, c :: r => if pre S (c :: r) = true then acc :: spl S (S.length - 1) [] r else spl S 0 (acc ++ [c]) r
  | k + 1, acc, _ :: r => spl S k acc r
/-- what stands before the first S, and behind it -/
def par (S : List Nat) : List Nat → List Nat → Option (List Nat × List Nat)
  | _, [] => none
  | acc, c :: r => if pre S (c :: r) = true then some (acc, (c :: r).drop S.length) else par S (acc ++ [c]) r
/-- joined lists -/
def joinL (S : List Nat) : List (List Nat) → List Nat
  | [] => []
  | [p] => p
  | p :: q :: r => p ++ (S ++ joinL S (q :: r))
theorem join_eq (y : Str) (parts : List Str) : Txt.join y parts = Str.join y parts := glued_eq_join y parts
/-- the signs of a number -/
def numL (n : Nat) : List Nat := (Nat.toDigits 10 n).map Char.toNat
def wstep (st : List (List Nat) × List Nat) (c : Nat) : List (List Nat) × List Nat :=
  if Unicode.isSpace c = true then (if st.2 = [] then st else (st.1 ++ [st.2], [])) else (st.1, st.2 ++ [c])
def wfin (st : List (List Nat) × List Nat) : List (List Nat) := if st.2 = [] then st.1 else st.1 ++ [st.2]
end TL
end 
namespace L2
open PySem PySem.Spec PyProof.Rows
theorem strs_of_vals : ∀ {ys : List Str} {us : List Value}, Vals (ys.map V.str) us → StrsAre us ys
  | [], _, .nil => .nil
  | y :: ys, _, .cons r t => by
    obtain ⟨k, rfl⟩ := r
    exact .cons y k (strs_of_vals t)
/-- a new list of texts, tracked -/
def rNewStrs (ys : List Str) : Hp → VK → Prop := fun H Q => ∀ p, H p = none → Q (.ref p) (upd H p (.lst (ys.map V.str)))
section
variable {X : Cx} {pins : List (Addr × Obj)} {σ : St} {H : Hp} {s : Shared} {Q : VK}
end
section
variable {X : Cx}
/-- sep.join(a list | a tuple of texts) -/
theorem mt_join : MtR X "str.join" (fun x xs H Q => ∃ a p, ∃ ys : List Str, x = .str a ∧ xs = [.ref p] ∧ (SqL X.K H p (ys.map V.str) ∨ SqT X.K H p (ys.map V.str)) ∧
    (ys.map (·.length)).sum + ys.length * a.length ≤ 16777216 ∧ Q (.str (Txt.join a ys)) H) := by
  intro pins s σ H x xs v us Q I rx rs h
  obtain ⟨a, p, ys, rfl, rfl, hp, hz, h⟩ := h
  obtain ⟨t, rfl⟩ := rx
  cases rs with
  | cons r1 rs =>
    cases rs
    cases r1
    rcases hp with hp | hp
    · obtain ⟨its, r, ⟨o, n, ho, hc, _, hd⟩, _⟩ := I.list hp
      exact PyProof.Rows.join_list (items := its.toArray) ⟨o, ho, hc, n, hd⟩ (by rw [List.toList_toArray]; exact strs_of_vals r) hz fun t' k => ⟨.str _, H, I.tok k, ⟨t', rfl⟩, h⟩
    · obtain ⟨its, r, ht, _⟩ := I.tuple hp
      exact PyProof.Rows.join_tuple (items := its.toArray) ht (by rw [List.toList_toArray]; exact strs_of_vals r) hz fun t' k => ⟨.str _, H, I.tok k, ⟨t', rfl⟩, h⟩
theorem mt1 {id : String} {g : Str → Str → V} (rule : ∀ (a b : Str) (t u : Tok) (s : Shared) (Q : Value → Shared → Prop), (∀ (v : Value) (k : Nat), RelV (g a b) v → Q v { s with toks := k }) →
    wpAny (model X.prog X.w) X.A (call (.builtin id) [.str a t, .str b u]) Q X.xe s) : MtR X id (fun x xs H Q => ∃ a b, x = .str a ∧ xs = [.str b] ∧ Q (g a b) H) := by
  intro pins s σ H x xs v us Q I rx rs h
  obtain ⟨a, b, rfl, rfl, h⟩ := h
  obtain ⟨t, rfl⟩ := rx
  cases rs with
  | cons r1 rs =>
    cases rs
    obtain ⟨u, rfl⟩ := r1
    exact rule a b t u s _ fun v k r => ⟨g a b, H, I.tok k, r, h⟩
theorem mt_count : MtR X "str.count" (fun x xs H Q => ∃ a b, x = .str a ∧ xs = [.str b] ∧ Q (.int (Txt.count a b)) H) :=
  mt1 (g := fun a b => .int (Txt.count a b)) fun _ _ _ _ s _ h => PySem.SC.count (h _ (s.toks + 1) ⟨_, rfl⟩)
end
section
variable {X : Cx} {o e : Expr} {to te : TE}
def tM0 (r : V → List V → Hp → VK → Prop) (to : TE) : TE := fun σ H Q => to σ H fun x H1 => (∃ a, x = .str a) ∧ r x [] H1 Q
def tM1 (r : V → List V → Hp → VK → Prop) (to te : TE) : TE := fun σ H Q => to σ H fun x H1 => (∃ a, x = .str a) ∧ te σ H1 fun y H2 => r x [y] H2 Q
theorem pe_m1 {id : String} {name : Str} {apos pos : Pos} {r : V → List V → Hp → VK → Prop} (slot : Slot "str" name id) (ty : typeOf (.builtin id) = pure (.type "method_descriptor")) (rule : MtR X id r) (ho : PE X o to) (he : PE X e te)
    (hs : starEach [e] X.env = [(false, eval e X.env)] := by rfl) (hbase : attributeBase o name X.env (eval o X.env) = eval o X.env := by rfl) (hline : (apos.endLine == pos.line) = true := by rfl) :
    PE X (.Call (.Attribute o name apos) [e] [] pos) (tM1 r to te) := by
  intro pins s σ H Q I h
  refine PySem.Call_method1 hbase hs hline (thn (ho pins s σ H _ I h) fun v s1 ⟨x, H1, I1, r1, q1⟩ => ?_)
  obtain ⟨⟨a, rfl⟩, q1⟩ := q1
  obtain ⟨t, rfl⟩ := _root_.id r1
  refine ⟨"str", _, F.plainAttrs_str, slot, ty, typeIs_str _ _ _, (fun _ e => nomatch e), Calls.callWith_builtin rfl (Calls.evalArgs_plain (Calls.spliced_cons ?_))⟩
  exact thn (he pins s1 σ H1 _ I1 q1) fun u s2 ⟨y, H2, I2, r2, q2⟩ => Calls.spliced_nil (rule pins s2 σ H2 _ [y] _ [u] Q I2 r1 (.cons r2 .nil) q2)
theorem pe_join {apos pos : Pos} (ho : PE X o to) (he : PE X e te) (hs : starEach [e] X.env = [(false, eval e X.env)] := by rfl) (hbase : attributeBase o "join" X.env (eval o X.env) = eval o X.env := by rfl) (hline : (apos.endLine == pos.line) = true := by rfl) :
    PE X (.Call (.Attribute o "join" apos) [e] [] pos) (tM1 (fun x xs H Q => ∃ a p, ∃ ys : List Str, x = .str a ∧ xs = [.ref p] ∧ (SqL X.K H p (ys.map V.str) ∨ SqT X.K H p (ys.map V.str)) ∧
      (ys.map (·.length)).sum + ys.length * a.length ≤ 16777216 ∧ Q (.str (Txt.join a ys)) H) to te) :=
  pe_m1 F.slot_str_join F.type_str_join mt_join ho he hs hbase hline
end
end L2
namespace L2
open PySem PySem.Spec PyProof.Rows
section
variable {X : Cx}
theorem op_notIn_sign : OpR X (compareOp .NotIn) (fun x y H Q => ∃ (c : Nat) (z : Str), x = .str ⟨#[c]⟩ ∧ y = .str z ∧ Q (.bl (!decide (c ∈ z.cps.toList))) H) := by
  intro pins s σ H x y v u Q I rx ry h
  obtain ⟨c, z, rfl, rfl, q⟩ := h
  obtain ⟨t, rfl⟩ := rx
  obtain ⟨t', rfl⟩ := ry
  exact PyProof.Rows.notIn_str (fin_bl I q (congrArg Bool.not (PySem.StrLaws.found_one z c).symm))
end
theorem IsPart.raw {v : Value} {o : Option Int} (p : IsPart v o) : ∃ l : Option (Int × Tok), v = partValue l ∧ l.map (·.1) = o := by
  cases p with
  | none => exact ⟨none, rfl, rfl⟩
  | int i t => exact ⟨some (i, t), rfl, rfl⟩
/-- a part, clipped, as the text's slice reckons it -/
def clipS (n d : Nat) : Option Int → Int
  | none => (d : Int)
  | some i => max 0 (min (if i < 0 then i + (n : Int) else i) (n : Int))
theorem clipS_eq (n d : Nat) (o : Option Int) : clipS n d o = ((HT.sIx n d o : Nat) : Int) := by
  cases o with
  | none => rfl
  | some v =>
    show max (0 : Int) (min (if v < 0 then v + (n : Int) else v) (n : Int)) = (((if v < 0 then (v + (n : Int)).toNat else min v.toNat n) : Nat) : Int)
    by_cases hv : v < 0
    · simp only [if_pos hv]
      omega
    · simp only [if_neg hv]
      omega
theorem sidx_clip (a b : Option Int) (n : Nat) : Builtin.Str.strSliceIndices a b 1 n = sliceRange (clipS n 0 a) (clipS n n b) 1 := by
  have h1 : ((1 : Int) > 0) = True := by simp
  cases a <;> cases b <;> first
    | rfl
    | (simp only [Builtin.Str.strSliceIndices, clipS, h1, if_true]; rfl)
    | simp [Builtin.Str.strSliceIndices, clipS]
theorem sidx (a b : Option Int) (n : Nat) : Builtin.Str.strSliceIndices a b 1 n = (List.range (HT.sIx n n b - HT.sIx n 0 a)).map (fun k => HT.sIx n 0 a + k) := by
  rw [sidx_clip, clipS_eq, clipS_eq]
  generalize HT.sIx n 0 a = p
  generalize HT.sIx n n b = q
  simp only [sliceRange, show ((1 : Int) > 0) = True from by simp, if_true]
  by_cases hlt : (p : Int) < q
  · have e3 : (((q : Int) - p + 1 - 1) / 1).toNat = q - p := by first | omega | (simp; done) | (simp; omega)
    simp only [hlt, if_true, e3]
    refine List.map_congr_left fun k _ => ?_
    omega
  · have : q - p = 0 := by omega
    simp [hlt, this]
/-- z[lo:hi] -/
def cutS (z : Str) (lo hi : Option Int) : Str :=
  ⟨((z.cps.toList.drop (HT.sIx z.length 0 lo)).take (HT.sIx z.length z.length hi - HT.sIx z.length 0 lo)).toArray⟩
theorem sliceText_cut (z : Str) (lo hi : Option Int) : PySem.StrLaws.sliceText z lo hi = cutS z lo hi := by
  have h1 : HT.sIx z.length 0 lo ≤ z.length := HT.sIx_le _ _ (Nat.zero_le _) _
  have h2 : HT.sIx z.length z.length hi ≤ z.length := HT.sIx_le _ _ (Nat.le_refl _) _
  have hp : HT.sIx z.length 0 lo ≤ max (HT.sIx z.length 0 lo) (HT.sIx z.length z.length hi) := Nat.le_max_left _ _
  have hq : max (HT.sIx z.length 0 lo) (HT.sIx z.length z.length hi) ≤ z.length := Nat.max_le.mpr ⟨h1, h2⟩
  have hd : max (HT.sIx z.length 0 lo) (HT.sIx z.length z.length hi) - HT.sIx z.length 0 lo = HT.sIx z.length z.length hi - HT.sIx z.length 0 lo := by omega
  have e : Builtin.Str.strSliceIndices lo hi 1 z.length =
      Builtin.Str.strSliceIndices (some ((HT.sIx z.length 0 lo : Nat) : Int)) (some ((max (HT.sIx z.length 0 lo) (HT.sIx z.length z.length hi) : Nat) : Int)) 1 z.length := by
    rw [PySem.StrLaws.strSliceIndices_plain hp hq, hd, sidx]
  have e2 : PySem.StrLaws.sliceText z lo hi =
      PySem.StrLaws.sliceText z (some ((HT.sIx z.length 0 lo : Nat) : Int)) (some ((max (HT.sIx z.length 0 lo) (HT.sIx z.length z.length hi) : Nat) : Int)) := by
    unfold PySem.StrLaws.sliceText
    rw [e]
  rw [e2, PySem.StrLaws.sliceText_nat z hp hq, hd]
  rfl
theorem cutS_length (z : Str) (lo hi : Option Int) : (cutS z lo hi).length ≤ z.length := by
  show (((z.cps.toList.drop (HT.sIx z.length 0 lo)).take (HT.sIx z.length z.length hi - HT.sIx z.length 0 lo)).toArray).size ≤ z.cps.size
  rw [List.size_toArray, List.length_take, List.length_drop, Array.length_toList]
  omega
def rSlS : V → Option Int → Option Int → Hp → VK → Prop := fun x lo hi H Q => ∃ z, x = .str z ∧ z.length ≤ sizeLine ∧ Q (.str (cutS z lo hi)) H
theorem sl_str {X : Cx} : SlR X rSlS := by
  intro pins s σ H x v vl vu lo hi sl Q I rx hs pl pu h
  obtain ⟨z, rfl, hz, q⟩ := h
  obtain ⟨t, rfl⟩ := rx
  obtain ⟨os, hos, hcs, hds⟩ := hs
  obtain ⟨l, rfl, rfl⟩ := IsPart.raw pl
  obtain ⟨u, rfl, rfl⟩ := IsPart.raw pu
  refine ⟨"str", _, F.slot_str_getitem.lookup, typeIs_str _ _ _, ?_⟩
  refine wpAny_getItem_str_slice (l := l) (u := u) (st := none) ⟨os, hos, hcs, hds⟩ rfl ?_
  have hl : (PySem.StrLaws.sliceText z (l.map (·.1)) (u.map (·.1))).length ≤ sizeLine := by
    rw [sliceText_cut]
    exact Nat.le_trans (cutS_length z _ _) hz
  rw [← sliceText_cut] at q
  unfold PySem.StrLaws.sliceText at q hl
  show Made.post (if ((1 : Int) == 1 && (Builtin.Str.strSliceIndices (l.map (·.1)) (u.map (·.1)) 1 z.length).length == z.length) = true then Made.val (.str z t)
    else Made.str ⟨((Builtin.Str.strSliceIndices (l.map (·.1)) (u.map (·.1)) 1 z.length).filterMap (z.cps[·]?)).toArray⟩) (EP X pins σ Q) s
  by_cases c : ((1 : Int) == 1 && (Builtin.Str.strSliceIndices (l.map (·.1)) (u.map (·.1)) 1 z.length).length == z.length) = true
  · rw [if_pos c] at q ⊢
    exact ⟨.str z, H, I, ⟨t, rfl⟩, q⟩
  · rw [if_neg c] at q hl ⊢
    exact ⟨hl, .str _, H, I.tok _, ⟨_, rfl⟩, q⟩
end L2
namespace Att
open PySem PySem.W PySem.Calls PyProof.Rows
theorem ints_of_wellAll {P : Params} {h : Heap} : ∀ (ns : List Int) (vs : List Value), WellAll P h vs (ns.map WData.int) → IntsAre vs ns := by
  intro ns
  induction ns with
  | nil =>
    intro vs w
    rw [List.map_nil] at w
    cases w
    exact .nil
  | cons n ns ih =>
    intro vs w
    rw [List.map_cons] at w
    cases w with
    | cons a b =>
      cases a
      exact .cons _ _ (ih _ b)
theorem script_of {l : OpenLaw} {n : Nat} (hn : l.most = some n) {P : Params} {h : Heap} {args : List WData} {vals : List Value}
    (hpre : l.row.toRowW.claim.pre args = true) (hwl : WellAll P h vals args) :
    ∃ a vs ns, vals = [Value.ref a] ∧ args = [WData.list (ns.map WData.int)] ∧ h.get? a = some { cls := .type "list", data := .seq vs.toArray } ∧ IntsAre vs ns ∧ ns.length ≤ n := by
  have hsh : WShape.hasAll [] args [.list .int] = true := (pre_splitW hpre).1
  have hc : l.pre.holds [] { args := args } = true := (pre_splitW hpre).2
  obtain ⟨d, r, rfl, h1, h2⟩ := hasAllW_cons hsh
  obtain rfl := hasAllW_nil h2
  obtain ⟨xs, rfl, h3⟩ := hasW_list h1
  obtain ⟨ns, rfl⟩ := items_int h3
  have hlen : ns.length ≤ n := by
    unfold OpenLaw.pre at hc
    have h4 : (WTm.not (.lt (.lit (.int (n : Int))) (.len (.arg 0)))).holds [] { args := [.list (ns.map .int)] } = true := by
      have h4 := (holds_andW hc).1
      rw [hn] at h4
      exact h4
    have h5 := condW_of h4 (w_not (w_lt w_lit (w_len_list (w_arg rfl))))
    rw [List.length_map] at h5
    refine Nat.le_of_not_lt fun q => ?_
    have q' : (n : Int) < ((ns.length : Nat) : Int) := by omega
    first
      | (rw [decide_eq_true q'] at h5; exact absurd h5 (by decide))
      | (simp at h5; omega)
  cases hwl with
  | cons w1 w2 =>
    cases w2
    cases w1 with
    | list ho hall => exact ⟨_, _, ns, rfl, rfl, ho, ints_of_wellAll ns _ hall, hlen⟩
theorem post_true (l : OpenLaw) (args : List WData) : l.row.toRowW.claim.post args (.bool true) args = true :=
  postW_of (r := l.row.toRowW) (X := (true == true))
    (show WShape.has [] (.bool true) .bool = true by first | rfl | decide | simp [WShape.has, WShape.arms, WShape.armsAll])
    (show (WTm.eq .res (.lit (.bool true))).value [] { args := args, res := some (.bool true), after := args } = some (.bool (true == true)) from w_eq_bool (w_res rfl) w_lit) rfl
/-- the same from a codeAny of the CALL (for a layer whose function contracts speak of calls) -/
theorem attach_call {l : OpenLaw} {n : Nat} {q : Program} {loose : List Str} {XP : (Str → Option Value) → Heap → Prop} {YP : World → Heap → Prop} {d : DefRec}
    (hn : l.most = some n) (hdf : d.params.defaults = [])
    (call : ∀ (w : World) (s₀ s₁ : Shared) (mg mb : Str → Option Value) (fa : Addr) (o : Obj) (pm cd doc : Value) (a : Addr) (vs : List Value) (ns : List Int),
      Ground q loose [] XP w s₀ mg mb s₁.heap → YP w s₁.heap →
      s₁.heap.get? fa = some o → o.data = .func (docDef d.name d.params d.body d.scope pm cd doc) → s₁.heap.CodeRec cd d.name → mg d.name = some (.ref fa) →
      s₁.heap.get? a = some { cls := .type "list", data := .seq vs.toArray } → IntsAre vs ns → ns.length ≤ n → s₁.gens = #[] →
      codeAny (model l.prog w) callerA (.call (.ref fa) ⟨[.ref a], []⟩) (fun r s' => r = .ok (.ret (.bool true)) ∧ OldK s₁.heap s'.heap ∧ s'.os = s₁.os ∧ AllBare s'.gens) s₁) :
    WalkO q loose XP YP l.row.toRowW d [] (fun f vs => PySem.call f vs) := by
  intro w s₀ s₁ mg mb G Y fa o pm cd doc dV kV ho hd hcd hD hmg hg args vals as hpre hlay hrd hwl hlo
  obtain rfl : dV = .none := Dflts.none hD hdf
  obtain rfl : kV = .none := Dflts.noKw hD
  obtain ⟨a, vs, ns, rfl, rfl, hobj, hints, hlen⟩ := script_of hn hpre hwl
  refine enter_call (codeAny_mono (call w s₀ s₁ mg mb fa o pm cd doc a vs ns G Y ho (fd_plain hd) hcd hmg hobj hints hlen hg) fun r s' hq => ?_)
  obtain ⟨rfl, h2, h3, h4⟩ := hq
  exact ⟨.inl ⟨.bool true, .bool true, [], rfl, fun _ => rfl, .bool true, post_true l _, fun _ => ⟨List.Pairwise.nil, fun _ hm => (nomatch hm)⟩⟩, h2, h3, h4⟩
section
variable {prog : Program} {w : World} {A : Around} {E : Value → Shared → Prop} {s : Shared} {K : Frag}
def noObjs (h : Heap) : Heap := { h with objs := #[] }
def ledger (h : Heap) (L d : Addr) : List (Addr × Obj) := (List.range h.objs.size).filterMap fun a => if a = L ∨ a = d then none else (h.get? a).map fun o => (a, o)
end
end Att
namespace L2
open PySem PySem.Spec PyProof.Rows
theorem vals_ints : ∀ {vs : List Value} {ns : List Int}, IntsAre vs ns → Vals (ns.map V.int) vs
  | _, _, .nil => .nil
  | _, _, .cons n t h => .cons ⟨t, rfl⟩ (vals_ints h)
/-- nothing is tracked but the script, known to the object (or it is an object of the module) -/
def Only (H : Hp) : Prop := ∀ b, H b = none ∨ ∃ o xs, H b = some (.frz o (.lst xs))
/-- THE HEAD: the law's promise, at the heap behind the top. F, the promise of the law's def, may use that base is part of the heap (so K.In base, base.Ns mainGlobals mg stand in Mod) -/
theorem law_call {P : Program} {w : World} {K : PySem.W.Frag} {mg mb : Str → Option Value} {CX : CXT} {k : Nat} {fa a : Addr} {fd : FuncData} {x : Str} {sp : Sp} {s₁ : Shared} {vs : List Value} {ns : List Int}
    (KX : K.In s₁.heap) (hns : s₁.heap.Ns mainGlobals mg) (hb : s₁.heap.Ns builtinsNs mb) (hbb : ∀ x : Str, x ≠ "__name__" → mb x = bootBuiltins x) (hlim : s₁.heap.NoLimit) (hg : s₁.gens = #[])
    (ha : s₁.heap.get? a = some { cls := .type "list", data := .seq vs.toArray }) (hi : IntsAre vs ns) (hl : ns.length ≤ sizeLine) (hr : Room k callerA)
    (F : ∀ base : Heap, K.In base → base.Ns mainGlobals mg → FnOk P w K mg base CX k fa fd [x] sp) (hbind : ∀ (s : Shared) (u : Value), BindsTo s fd ⟨[u], []⟩ [(x, u)])
    (hsp : ∀ H : Hp, Only H → SqL K H a (ns.map V.int) → sp [.ref a] H (fun v _ => v = .bl true) fun _ _ _ => False)
    (hCX : ∀ H e s', CX [] H s₁ (fun _ _ _ => False) e s' → False) :
    codeAny (model P w) callerA (.call (.ref fa) ⟨[.ref a], []⟩) (fun r s' => r = .ok (.ret (.bool true)) ∧ OldK s₁.heap s'.heap ∧ s'.os = s₁.os ∧ AllBare s'.gens) s₁ := by
  have rv := vals_ints hi
  have lenV := hi.length
  -- from an abstract heap in which nothing but the script may be tracked
  have core : ∀ H : Hp, Only H → SqL K H a (ns.map V.int) → HOk P w H s₁.heap → (∀ b, H b ≠ none → b = a) → (H a ≠ none → K.lookup a = none) →
      codeAny (model P w) callerA (.call (.ref fa) ⟨[.ref a], []⟩) (fun r s' => r = .ok (.ret (.bool true)) ∧ OldK s₁.heap s'.heap ∧ s'.os = s₁.os ∧ AllBare s'.gens) s₁ := by
    intro H hO hS hok hA hK
    have base_of : ∀ {b : Addr} {o : Obj}, s₁.heap.get? b = some o → H b = none → (hidT s₁.heap H).get? b = some o := fun e n => hidT_get e n
    have noA : ∀ {b : Addr} {o : Obj} {es : Array DictEntry} {ep : Nat}, s₁.heap.get? b = some o → o.data = .dict es ep → H b = none := fun {b o es ep} e d => by
      cases q : H b with
      | none => rfl
      | some u =>
        have e' : b = a := hA b (by rw [q]; simp)
        subst e'
        rw [ha] at e; cases e
        have d' : Data.seq vs.toArray _ = Data.dict es ep := d
        cases d'
    have nsK : ∀ {b : Addr} {m : Str → Option Value}, s₁.heap.Ns b m → (hidT s₁.heap H).Ns b m := fun {b m} ⟨o, es, ep, e, d, r⟩ => ⟨o, es, ep, base_of e (noA e d), d, r⟩
    have hKb : K.In (hidT s₁.heap H) := fun b o e => base_of (KX b o e) (by
      cases q : H b with
      | none => rfl
      | some u =>
        have e' : b = a := hA b (by rw [q]; simp)
        subst e'
        rw [hK (by rw [q]; simp)] at e; cases e)
    have hM : Mod K mg (hidT s₁.heap H) := ⟨hKb, nsK hns, ⟨mb, nsK hb, hbb⟩, let ⟨mc, h1, h2⟩ := hlim; ⟨mc, nsK h1, h2⟩⟩
    have e0 : Env0 P w K mg (hidT s₁.heap H) callerA [] s₁ H := ⟨rfl, hM, fun b o e => of_hidT e, Nat.le_of_eq (hidT_size _ _), trivial, fun b hb => absurd (show b ∈ ([] : List Addr) from hb) (by simp), hok, .of_eq hg⟩
    refine codeAny_mono ((F _ hKb (nsK hns)).run callerA [] s₁ H ⟨[.ref a], []⟩ [.ref a] [.ref a] _ _ hr e0 (hbind s₁ (.ref a)) (.cons rfl .nil) (hsp H hO hS)) fun r s' h => ?_
    cases r with
    | error e => exact (hCX H e s' h).elim
    | ok fl =>
      cases fl with
      | next => exact False.elim h
      | brk => exact False.elim h
      | cont => exact False.elim h
      | ret u =>
        obtain ⟨v, H', os, bare, un, hok', r', q⟩ := h
        have q' : v = .bl true := q
        subst q'
        obtain rfl : u = Value.bool true := r'
        refine ⟨rfl, OldK.of_keep fun b o e => ?_, os, bare⟩
        cases q : H b with
        | none => exact un.keep b o e q (by intro z; exact absurd (show b ∈ ([] : List Addr) from z) (by simp)) (by simp)
        | some u =>
          rcases hO b with z | ⟨ob, xs, z⟩
          · rw [q] at z; cases z
          · have z2 := un.frzs b ob _ z
            obtain ⟨e1, _⟩ := hok b _ z
            obtain ⟨e2, _⟩ := hok' b _ z2
            rw [e] at e1; cases e1
            exact e2
  cases hk : K.lookup a with
  | some o =>
    -- the script is one of the module's own objects
    have e := KX a o hk
    rw [ha] at e
    cases e
    refine core (fun _ => none) (fun _ => .inl rfl) (.inr ⟨_, vs.toArray, _, hk, rfl, rfl, rfl, by rw [List.size_toArray, lenV]; exact hl, by simpa using rv⟩) (fun b u z => by have z' : (none : Option HO) = some u := z; cases z') (fun b z => absurd rfl z) fun z => absurd rfl z
  | none =>
    refine core (fun b => if b = a then some (.frz { cls := .type "list", data := .seq vs.toArray } (.lst (ns.map V.int))) else none) (fun b => ?_) (.inl (.inr ⟨{ cls := .type "list", data := .seq vs.toArray }, if_pos rfl⟩)) (fun b u z => ?_) (fun b z => ?_) fun _ => hk
    · by_cases hb : b = a
      · exact .inr ⟨_, _, if_pos hb⟩
      · exact .inl (if_neg hb)
    · by_cases hb : b = a
      · have z' := (if_pos hb).symm.trans z
        cases z'
        subst hb
        exact ⟨ha, by rw [List.length_map]; exact hl, vs, _, rv, ha⟩
      · have z' := (if_neg hb).symm.trans z
        cases z'
    · by_cases hb : b = a
      · exact hb
      · exact absurd (if_neg hb) z
end L2
namespace L2
open PySem PySem.Spec PyProof.Rows
abbrev KOf {K : PySem.W.Frag} {h : Heap} (_ : K.In h) : PySem.W.Frag := K
/-- the goal that k_head leaves (case hc), from the law's promise. F gives the function object fd (K's own) once, then the promise over every base -/
theorem walk_of {l : PySem.W.OpenLaw} {n k : Nat} {q : Program} {loose : List Str} {XP : (Str → Option Value) → Heap → Prop} {YP : World → Heap → Prop} {d : DefRec} {K : Params → PySem.W.Frag} {CX : World → CXT} {sp : World → Sp} {x : Str}
    (hn : l.most = some n) (hn2 : n ≤ sizeLine) (hdf : d.params.defaults = []) (hr : Room k callerA)
    (hY : ∀ (w : World) (h : Heap), YP w h → (K w.params).In h)
    (F : ∀ (w : World) (mg : Str → Option Value) (fa : Addr) (h : Heap), (K w.params).In h → h.Ns mainGlobals mg → mg d.name = some (.ref fa) →
      ∃ fd : FuncData, (∀ (s : Shared) (u : Value), BindsTo s fd ⟨[u], []⟩ [(x, u)]) ∧
        ∀ base : Heap, (K w.params).In base → base.Ns mainGlobals mg → FnOk l.prog w (K w.params) mg base (CX w) k fa fd [x] (sp w))
    (hsp : ∀ (w : World) (H : Hp) (a : Addr) (ns : List Int), ns.length ≤ n → Only H → SqL (K w.params) H a (ns.map V.int) → sp w [.ref a] H (fun v _ => v = .bl true) fun _ _ _ => False)
    (hCX : ∀ (w : World) (H : Hp) (s : Shared) (e : Value) (s' : Shared), CX w [] H s (fun _ _ _ => False) e s' → False) :
    PySem.W.WalkO q loose XP YP l.row.toRowW d [] (fun f vs => PySem.call f vs) := by
  refine Att.attach_call hn hdf fun w s₀ s₁ mg mb fa o pm cd doc a vs ns G Y ho hd hcd hmg hobj hints hlen hg => ?_
  have KX := hY w _ Y
  obtain ⟨fd, hb, hF⟩ := F w mg fa _ KX G.T.g hmg
  exact law_call KX G.T.g G.T.b G.T.builtins G.T.nolimit hg hobj hints (Nat.le_trans hlen hn2) hr hF hb (fun H hO hS => hsp w H a ns hlen hO hS) fun H e s' => hCX w H s₁ e s'
end L2
/- THE LAST THEOREM (shape; LID, My.* are yours):
   My.Adr: a structure of the addresses that your layer names (classes, functions); My.Txt K t: a structure (Prop) of the equations over K;
   My.txt_mk : {K} {implicit addresses ..} (e1 : nsIn K mainGlobals "law" = some (some (.ref f))) (e2 : K.lookup f = some ⟨oc, od, .func (fnOf "law" "law" params body scope dV kV doc pm an cdv ct), sl⟩) (e3 : codeIn K cdv "law" = true) .. : ∃ t, My.Txt K t
set_option maxRecDepth 100000 in
set_option maxHeartbeats 0 in
theorem PySem.Challenge.cw_LID_holds : PySem.Challenge.rw_LID.Holds := by
  w_on; o_law; k_head; (case hw => w_witness2)
  k_fill
  refine L2.walk_of (l := PySem.Challenge.rw_LID) (n := 63) (k := 40) (x := "script") (CX := fun w => ..) (sp := fun _ => My.sp_law) rfl (by decide) rfl ⟨rfl, by decide, by decide⟩ (fun w h Y => PySem.W.kIn_of Y) ?F ?S ?C
  case F =>
    intro w mg fa h KX G hmg
    have T : ∃ t, My.Txt (L2.KOf KX) t := by
      dsimp only [L2.KOf]                          -- K must stand as «<heap const> w.params» for k_is
      refine' My.txt_mk ?e1 ?e2 ?e3 ..
      (case e1 => PySem.W.k_is)                    -- in the order: a name -> its address -> its object -> its parts
      (case e2 => PySem.W.k_is)
      ..
    obtain ⟨t, T⟩ := T
    have e0 := hmg.symm.trans (PySem.W.mg_of KX G T.law)
    cases e0                                       -- fa is the law's own address
    exact ⟨_, fun s u => .of_eq rfl, fun base kb nb => My.law_fn T kb nb⟩     -- if «.of_eq rfl» comes too early: refine' ⟨_, ?b, fun base kb nb => My.law_fn T kb nb⟩; exact fun s u => .of_eq rfl
  case S => exact fun w H a ns hl hO hS => ..
  case C => exact ..
(the tactic k_is has no namespace: write k_is) -/
namespace L2
open PySem PySem.Spec PyProof.Rows
/-- the j-th statement of a class's body -/
def inClass (s : Stmt) (j : Nat) : Stmt := match s with
  | .ClassDef _ _ _ body _ _ _ _ _ _ _ => body.getD j (.Pass ⟨0, 0, 0, 0⟩)
  | _ => .Pass ⟨0, 0, 0, 0⟩
def defArgs (s : Stmt) : Arguments := match s with
  | .FunctionDef _ a _ _ _ _ _ _ _ _ => a
  | _ => { posonlyargs := [], args := [], vararg := none, kwonlyargs := [], kw_defaults := [], kwarg := none, defaults := [] }
def defBody (s : Stmt) : List Stmt := match s with
  | .FunctionDef _ _ b _ _ _ _ _ _ _ => b
  | _ => []
def defScope (s : Stmt) : Scope := match s with
  | .FunctionDef _ _ _ _ _ _ sc _ _ _ => sc
  | _ => { kind := .function, names := [], isGenerator := false, isCoroutine := false }
abbrev CX0 : CXT := fun _ _ _ _ _ _ => False
abbrev E0 : XK := fun _ _ _ => False
theorem pass0 {X : Cx} : Passes CX0 X E0 := fun _ _ _ _ _ _ _ h => h.elim
structure Fun (K : PySem.W.Frag) (x qual : Str) (st : Stmt) (f : Addr) (fd : FuncData) : Prop where
  ex : ∃ (oc : Value) (od : Option Addr) (kV doc pm : Value) (an : Option Addr) (cdv ct : Value) (osl : Array (Option Value)),
    fd = PySem.W.fnOf x qual (defArgs st) (defBody st) (defScope st) .none kV doc pm an cdv ct ∧ K.lookup f = some ⟨oc, od, .func fd, osl⟩ ∧ PySem.W.codeIn K cdv qual = true
  kp : PySem.W.keepIn K (.ref f) = true
section
variable {P : Program} {w : World} {K : PySem.W.Frag} {mg : Str → Option Value} {base : Heap}
/-- THE RULE for a def: its body as a term of rules, and the reading of that term -/
theorem Fun.ok {x qual : Str} {st : Stmt} {f : Addr} {fd : FuncData} {N ps : List Str} {k : Nat} {sp : Sp} (F : Fun K x qual st f fd) (S : FnScope N ps (defScope st)) (len : ∀ vs H Q E, sp vs H Q E → vs.length = ps.length)
    (hbody : ∀ (cdv : Value) (A : Around) (outer : List Env) (s : Shared) (H : Hp) (vs : List V) (Q : VK) (E : XK), Room k (A.deeper (envOfC qual (defScope st) s.heap.objs.size f cdv)) → sp vs H Q E →
      ∃ t, PSs (cxOf CX0 P w K mg base N qual (defScope st) f cdv A outer s H E).nox (defBody st) t ∧ t { nx := fun _ H' => Q .non H', rt := Q } (start N vs) H) : FnOk P w K mg base CX0 (k + 1) f fd ps sp := by
  obtain ⟨oc, od, kV, doc, pm, an, cdv, ct, osl, rfl, lk, hcd⟩ := F.ex
  refine fn_of lk hcd S len fun A outer s H vs Q E hr hsp => ?_
  obtain ⟨t, h, q⟩ := hbody cdv A outer s H vs Q E hr hsp
  exact ⟨t, h.nox, q⟩
/-- how its arguments bind (no defaults): h is «fun _ _ _ _ _ _ us hl => match us, hl with | [_, _], _ => rfl», one _ a parameter -/
theorem Fun.binds {x qual : Str} {st : Stmt} {f : Addr} {fd : FuncData} {ps : List Str} (F : Fun K x qual st f fd)
    (h : ∀ (kV doc pm : Value) (an : Option Addr) (cdv ct : Value) (us : List Value), us.length = ps.length → bindArgs (PySem.W.fnOf x qual (defArgs st) (defBody st) (defScope st) .none kV doc pm an cdv ct) ⟨us, []⟩ = pure (ps.zip us)) : Binds K fd ps [] := by
  obtain ⟨oc, od, kV, doc, pm, an, cdv, ct, osl, rfl, lk, hcd⟩ := F.ex
  exact .all (h kV doc pm an cdv ct)
theorem fun_mk {x qual : Str} {st : Stmt} {f : Addr} {oc : Value} {od an : Option Addr} {osl : Array (Option Value)} {kV doc pm cdv ct : Value} (l : K.lookup f = some ⟨oc, od, .func (PySem.W.fnOf x qual (defArgs st) (defBody st) (defScope st) .none kV doc pm an cdv ct), osl⟩)
    (c : PySem.W.codeIn K cdv qual = true) (k : PySem.W.keepIn K (.ref f) = true) : Fun K x qual st f (PySem.W.fnOf x qual (defArgs st) (defBody st) (defScope st) .none kV doc pm an cdv ct) := ⟨⟨oc, od, kV, doc, pm, an, cdv, ct, osl, rfl, l, c⟩, k⟩
end
theorem hu_of {A : Around} {k : Nat} (hr : Room k A) : A.units + 1 < cLine := Nat.lt_of_le_of_lt (Nat.add_le_add_left (by decide : 1 ≤ 64) _) hr.units
theorem small1000 {n : Nat} (h : n ≤ 1000) : n < sizeLine := Nat.lt_of_le_of_lt h (by decide)
section
variable {X : Cx}
theorem pv (i : Nat) {x : Str} {pos : Pos} (hN : X.N[i]? = some x := by rfl) (hv : Vis X.env.scope x := by first | exact Or.inl rfl | exact Or.inr (Or.inl rfl) | exact Or.inr (Or.inr rfl)) (hd : (x == ("__debug__" : Str)) = false := by decide)
    (hcd : (x == ("__classdict__" : Str)) = false := by decide) : PE X (.Name x pos) (tVar i) := pe_var hN hv hd hcd
end
theorem iteF {A B : Prop} (h : B) : if false = true then A else B := by
  rw [if_neg Bool.false_ne_true]
  exact h
theorem iteT {A B : Prop} (h : A) : if true = true then A else B := by
  rw [if_pos rfl]
  exact h
theorem ite2 {c A B : Prop} [Decidable c] (h1 : c → A) (h2 : ¬ c → B) : if c then A else B := by
  by_cases h : c
  · rw [if_pos h]
    exact h1 h
  · rw [if_neg h]
    exact h2 h
/-- all that was tracked is as it was -/
def Same (H H' : Hp) : Prop := ∀ b o, H b = some o → H' b = some o
theorem Same.refl (H : Hp) : Same H H := fun _ _ h => h
theorem Same.trans {H H1 H2 : Hp} (a : Same H H1) (b : Same H1 H2) : Same H H2 := fun c o h => b c o (a c o h)
theorem Same.free {H H' : Hp} (e : Same H H') {l : Addr} (h : H' l = Option.none) : H l = Option.none := by
  cases q : H l with
  | none => rfl
  | some o =>
    rw [e l o q] at h
    cases h
theorem Same.seq {K : PySem.W.Frag} {H H' : Hp} {a : Addr} {xs : List V} (e : Same H H') (h : SqL K H a xs) : SqL K H' a xs := by
  rcases h with (h | ⟨o, h⟩) | h
  · exact .inl (.inl (e _ _ h))
  · exact .inl (.inr ⟨o, e _ _ h⟩)
  · exact .inr h
section
variable {κ : Type} [DecidableEq κ]
end
/-- a new instance and its __init__ leave all that was tracked as it was -/
theorem Same.made {H H1 : Hp} {x dx C : Addr} (nx : H x = Option.none) (nd : H dx = Option.none) (k : ∀ b o, (upd (upd H dx (.own x)) x (.ins C dx [])) b = some o → b ≠ x → H1 b = some o) : Same H H1 := fun b o e =>
  k b o (by rw [upd_ne (ne_of_none e nx), upd_ne (ne_of_none e nd)]; exact e) (ne_of_none e nx)
end L2
set_option Elab.async false
set_option linter.all false
set_option maxRecDepth 100000
namespace L2
open PySem PySem.Spec PyProof.Rows
abbrev EnO (h : Heap) (e it : Addr) (i : Int) (f0 f1 old : Value) : Prop :=
  h.get? e = some { cls := .type "enumerate", dict := none, data := .fields #[f0, f1, .ref it, rawInt i, .none, old], slots := #[] }
/-- the enumerate between two items: nothing handed out, or the last pair still stands -/
def EnS (h : Heap) (e it : Addr) (i : Int) : Prop :=
  (∃ old, EnO h e it i .none (.bool false) old) ∨ ∃ (a : Addr) (f : Bool) (old : Value) (oa : Obj), EnO h e it i (rawInt a) (.bool f) old ∧ h.get? a = some oa ∧ a ≠ e ∧ a ≠ it
section
variable {prog : Program} {w : World} {A : Around} {E : Value → Shared → Prop} {s : Shared}
theorem en_next {e it l : Addr} {i : Nat} {items : Array Value} {x : Value} {Q : Value → Shared → Prop}
    (he : EnS s.heap e it i) (hit : s.heap.IsListIter it l i) (hl : s.heap.IsList l items) (hx : items[i]? = some x) (hne : e ≠ it)
    (hQ : ∀ h', EnS h' e it ((i : Int) + 1) → h'.IsListIter it l (i + 1) →
      h'.get? s.heap.objs.size = some { cls := .type "tuple", data := .seq #[.int i s.toks, x] } → h'.objs.size = s.heap.objs.size + 1 →
      (∀ b o, b ≠ e → b ≠ it → s.heap.get? b = some o → h'.get? b = some o) → Q (.ref s.heap.objs.size) { s with heap := h', toks := s.toks + 1 }) :
    wpAny (model prog w) A (Builtin.«enumerate.__next__» ⟨[.ref e], []⟩) (fun fin s' => ∃ v, fin = .done (.ret v) ∧ Q v s') E s := by
  rcases he with ⟨old, he⟩ | ⟨a, f, old, oa, he, ha, hae, hai⟩
  · refine enumerate_next_item he hit hl hx hne fun h' h1 h2 h3 h4 h5 => hQ h' (.inr ⟨_, _, _, _, h1, h3, ?_, ?_⟩) h2 h3 h4 h5
    · exact Nat.ne_of_gt (Heap.lt_size he)
    · obtain ⟨o, ho, _⟩ := hit
      exact Nat.ne_of_gt (Heap.lt_size ho)
  obtain ⟨hp, g, d, tk, os⟩ := s
  show wpAny _ _ (field (.ref e) 2 >>= _) _ _ _
  refine wpAny_bind (wpAny_field he rfl (x := .ref it) rfl ?_)
  refine wpAny_bind (wpAny_nextOf_list_item hit hl hx fun h₁ hit₁ hs₁ => ?_)
  replace hs₁ : Heap.SameBut it hp h₁ := hs₁
  have he₁ : EnO h₁ e it i (rawInt a) (.bool f) old := (hs₁.2 e hne).trans he
  show wpAny _ _ (field (.ref e) 3 >>= _) _ _ ⟨h₁, g, d, tk, os⟩
  refine wpAny_bind (wpAny_field he₁ rfl (x := rawInt i) rfl ?_)
  show wpAny _ _ (field (.ref e) 4 >>= _) _ _ ⟨h₁, g, d, tk, os⟩
  refine wpAny_bind (wpAny_field he₁ rfl (x := .none) rfl ?_)
  show wpAny _ _ (mkInt i >>= _) _ _ ⟨h₁, g, d, tk, os⟩
  refine wpAny_bind (wpAny_mkInt ?_)
  show wpAny _ _ (setField (.ref e) 3 (rawInt ((i : Int) + 1)) >>= _) _ _ ⟨h₁, g, d, tk + 1, os⟩
  refine wpAny_bind (wpAny_setField_rec he₁ (by simp) fun h₂ he₂ hs₂ => ?_)
  replace hs₂ : Heap.SameBut e h₁ h₂ := hs₂
  replace he₂ : EnO h₂ e it ((i : Int) + 1) (rawInt a) (.bool f) old := he₂
  show wpAny _ _ (setField (.ref e) 4 .none >>= _) _ _ ⟨h₂, g, d, tk + 1, os⟩
  refine wpAny_bind (wpAny_setField_rec he₂ (by simp) fun h₃ he₃ hs₃ => ?_)
  replace hs₃ : Heap.SameBut e h₂ h₃ := hs₃
  replace he₃ : EnO h₃ e it ((i : Int) + 1) (rawInt a) (.bool f) old := he₃
  show wpAny _ _ (newTuple [.int i tk, x] >>= _) _ _ ⟨h₃, g, d, tk + 1, os⟩
  refine wpAny_bind (wpAny_newTuple ?_)
  have he₄ : EnO (h₃.push { cls := .type "tuple", data := .seq #[.int i tk, x] }) e it ((i : Int) + 1) (rawInt a) (.bool f) old := Heap.get?_push_of_some _ he₃
  generalize hh₄ : h₃.push { cls := .type "tuple", data := .seq #[.int i tk, x] } = h₄ at he₄
  have hsz : h₃.objs.size = hp.objs.size := by rw [hs₃.1, hs₂.1, hs₁.1]
  have hel : e < hp.objs.size := Heap.lt_size he
  have hil : it < hp.objs.size := by obtain ⟨o, ho, _⟩ := hit; exact Heap.lt_size ho
  have ht₄ : h₄.get? hp.objs.size = some { cls := .type "tuple", data := .seq #[.int i tk, x] } := by rw [← hh₄, ← hsz]; exact Heap.get?_push_size _ rfl
  have hz₄ : h₄.objs.size = hp.objs.size + 1 := by rw [← hh₄, Heap.size_push, hsz]
  have hk₄ : ∀ b o, b ≠ e → b ≠ it → hp.get? b = some o → h₄.get? b = some o := fun b o hbe hbi hb => by
    rw [← hh₄]; exact Heap.get?_push_of_some _ (hs₃.extBut b o hbe (hs₂.extBut b o hbe (hs₁.extBut b o hbi hb)))
  have hit₄ : h₄.IsListIter it l (i + 1) := by
    rw [← hh₄]; obtain ⟨o, ho, r⟩ := (hit₁.extBut hs₂.extBut (Ne.symm hne)).extBut hs₃.extBut (Ne.symm hne); exact ⟨o, Heap.get?_push_of_some _ ho, r⟩
  have ha₄ : h₄.get? a = some oa := hk₄ a oa hae hai ha
  show wpAny _ _ (Builtin.SmallTypes.ownedTupleIsFree (.ref e) >>= _) _ _ ⟨h₄, g, d, tk + 1, os⟩
  rw [hsz]
  clear hh₄ he₃ hs₃ he₂ hs₂ he₁ hs₁ hit₁ hsz h₃ h₂ h₁
  refine wpAny_bind ?_
  unfold Builtin.SmallTypes.ownedTupleIsFree
  refine wpAny_bind (wpAny_field he₄ rfl (x := rawInt a) rfl ?_)
  show wpAny _ _ (loadIfAlive (a : Int).toNat >>= _) _ _ ⟨h₄, g, d, tk + 1, os⟩
  rw [Int.toNat_natCast]
  refine wpAny_bind (PySem.W.kdx_alive (s := ⟨h₄, g, d, tk + 1, os⟩) ha₄ ?_)
  refine wpAny_ite_split (fun hab => absurd hab (by simp)) fun _ => ?_
  refine wpAny_bind (wpAny_field he₄ rfl (x := .bool f) rfl ?_)
  cases f with
  | true =>
    refine wpAny_ite_split (fun hab => absurd hab (by decide)) fun _ => ?_
    refine wpAny_pure ?_
    exact wpAny_pure ⟨_, rfl, hQ h₄ (.inr ⟨a, true, old, oa, he₄, ha₄, hae, hai⟩) hit₄ ht₄ hz₄ hk₄⟩
  | false =>
    refine wpAny_ite_split (fun _ => ?_) fun hab => absurd (by decide) hab
    refine wpAny_bind (wpAny_setField_rec he₄ (by simp) fun h₅ he₅ hs₅ => ?_)
    replace hs₅ : Heap.SameBut e h₄ h₅ := hs₅
    replace he₅ : EnO h₅ e it ((i : Int) + 1) (rawInt a) (.bool true) old := he₅
    refine wpAny_pure ?_
    refine wpAny_pure ⟨_, rfl, hQ h₅ (.inr ⟨a, true, old, oa, he₅, hs₅.extBut _ _ hae ha₄, hae, hai⟩) (hit₄.extBut hs₅.extBut (Ne.symm hne)) (hs₅.extBut _ _ (Nat.ne_of_gt hel) ht₄) (by rw [hs₅.1, hz₄]) ?_⟩
    exact fun b o hbe hbi hb => hs₅.extBut b o hbe (hk₄ b o hbe hbi hb)
theorem en_pyNext {e it l : Addr} {i : Nat} {items : Array Value} {x : Value} {Q : Option Value → Shared → Prop}
    (he : EnS s.heap e it i) (hit : s.heap.IsListIter it l i) (hl : s.heap.IsList l items) (hx : items[i]? = some x) (hne : e ≠ it)
    (hQ : ∀ h', EnS h' e it ((i : Int) + 1) → h'.IsListIter it l (i + 1) →
      h'.get? s.heap.objs.size = some { cls := .type "tuple", data := .seq #[.int i s.toks, x] } → h'.objs.size = s.heap.objs.size + 1 →
      (∀ b o, b ≠ e → b ≠ it → s.heap.get? b = some o → h'.get? b = some o) → Q (some (.ref s.heap.objs.size)) { s with heap := h', toks := s.toks + 1 }) :
    wpAny (model prog w) A (pyNext (.ref e)) Q E s := by
  have hT : s.TypeIs (.ref e) "enumerate" := by rcases he with ⟨_, he⟩ | ⟨_, _, _, _, he, _⟩ <;> exact ⟨_, he, rfl⟩
  unfold pyNext
  exact wpAny_bind (wpAny_attempt (wpAny_callSpecial?_slot (name := Str.ofString "__next__") hT PySem.F.slot_enumerate_next
    (wpAny_call_entry PySem.F.slot_enumerate_next hT PySem.F.entry_enumerate_next
      (en_next he hit hl hx hne fun h' a b c d k => wpAny_pure (hQ h' a b c d k)) (PySem.F.args_enumerate_next_1 _))))
theorem en_pyEnd {e it l : Addr} {i : Nat} {items : Array Value} {Q : Option Value → Shared → Prop} (hh : A.handled = none)
    (he : EnS s.heap e it i) (hit : s.heap.IsListIter it l i) (hl : s.heap.IsList l items) (hx : items[i]? = none)
    (hQ : ∀ h', Heap.ExtBut it s.heap h' → Q none { s with heap := h' }) : wpAny (model prog w) A (pyNext (.ref e)) Q E s := by
  have go : ∀ f0 f1 old, EnO s.heap e it i f0 f1 old → wpAny (model prog w) A (pyNext (.ref e)) Q E s := by
    intro f0 f1 old he
    have hT : s.TypeIs (.ref e) "enumerate" := ⟨_, he, rfl⟩
    unfold pyNext
    refine wpAny_bind (wpAny_attempt (wpAny_callSpecial?_slot (name := Str.ofString "__next__") hT PySem.F.slot_enumerate_next
      (wpAny_call_entry PySem.F.slot_enumerate_next hT PySem.F.entry_enumerate_next ?_ (PySem.F.args_enumerate_next_1 _))))
    show wpAny _ _ (field (.ref e) 2 >>= _) _ _ _
    refine wpAny_bind (wpAny_field he rfl (x := .ref it) rfl ?_)
    refine wpAny_bind (wpAny_nextOf_list_end hh hit hl hx fun h' x he' hx' => ?_)
    obtain ⟨o, ho, hc⟩ := hx'
    refine wpAny_bind (wpAny_isInstance (T := "StopIteration") (b := true) ⟨o, ho, hc⟩ isSubtype_stop ?_)
    exact wpAny_pure (hQ _ he')
  rcases he with ⟨old, he⟩ | ⟨a, f, old, oa, he, _⟩
  · exact go _ _ _ he
  · exact go _ _ _ he
theorem EnS.keep {h h' : Heap} {e it S : Addr} {i : Int} (x : EnS h e it i) (hk : ∀ b o, b ≠ S → h.get? b = some o → h'.get? b = some o) (he : e ≠ S)
    (hS : ∀ o, h.get? S = some o → ∃ o', h'.get? S = some o') : EnS h' e it i := by
  rcases x with ⟨old, x⟩ | ⟨a, f, old, oa, x, ha, h1, h2⟩
  · exact .inl ⟨old, hk _ _ he x⟩
  · by_cases z : a = S
    · subst z
      obtain ⟨o', q⟩ := hS _ ha
      exact .inr ⟨a, f, old, o', hk _ _ he x, q, h1, h2⟩
    · exact .inr ⟨a, f, old, oa, hk _ _ he x, hk _ _ z ha, h1, h2⟩
/-- the pairs made so far -/
structure EnG (its : Array Value) (lo : Addr) (h : Heap) (as : List Addr) : Prop where
  above : ∀ a ∈ as, lo < a
  pairs : ∀ (j : Nat) (a : Addr), as[j]? = some a → ∃ (t : Tok) (x : Value), its[j]? = some x ∧ h.get? a = some { cls := .type "tuple", data := .seq #[.int j t, x] }
theorem en_iter {e it : Addr} {i : Int} {Q : Value → Shared → Prop} (hT : s.TypeIs (.ref e) "enumerate") (h : Q (.ref e) s) : wpAny (model prog w) A (pyIter (.ref e)) Q E s := by
  refine wpAny_pyIter_slot hT PySem.F.slot_enumerate_iter (wpAny_call_entry PySem.F.slot_enumerate_iter hT PySem.F.entry_enumerate_iter ?_ (PySem.F.args_enumerate_iter_1 _))
  show wpAny _ _ (ret (.ref e)) _ _ s
  exact wpAny_pure ⟨_, rfl, _, _, hT, PySem.F.slot_enumerate_next.lookup, h⟩
theorem EnS.ty {e it : Addr} {i : Int} (he : EnS s.heap e it i) : s.TypeIs (.ref e) "enumerate" := by rcases he with ⟨_, he⟩ | ⟨_, _, _, _, he, _⟩ <;> exact ⟨_, he, rfl⟩
end
end L2
set_option Elab.async false
set_option linter.all false
set_option maxRecDepth 100000
namespace L2
open PySem PySem.Spec PyProof.Rows
section
variable {X : Cx} {pins : List (Addr × Obj)} {σ : St} {H H' : Hp} {s : Shared} {h' : Heap}
/-- the heap H with what the list names laid over it -/
def lay (H : Hp) : List (Addr × HO) → Hp
  | [] => H
  | (a, o) :: r => upd (lay H r) a o
end
def tLE (K : PySem.W.Frag) (ta : TA) : TE := fun σ H Q => ta σ H fun vs H1 => ∃ (a : Addr) (xs : List V), vs = [.ref a] ∧ SqL K H1 a xs ∧ ∀ (l : Addr) (ts : List Addr) (H' : Hp), H1 l = none → (∀ t ∈ ts, H1 t = none) → ts.length = xs.length →
  (∀ b o, H1 b = some o → H' b = some o) → H' l = some (.lst (ts.map V.ref)) → (∀ (j : Nat) (t : Addr), ts[j]? = some t → ∃ x, xs[j]? = some x ∧ H' t = some (.tup [.int j, x])) → Q (.ref l) H'
end L2
set_option Elab.async false
set_option linter.all false
set_option maxRecDepth 100000
namespace L2
open PySem PySem.Spec PyProof.Rows
def revS (z : Str) : Str := ⟨z.cps.toList.reverse.toArray⟩
theorem fm_congr {α β : Type} {f g : α → Option β} : ∀ {l : List α}, (∀ a ∈ l, f a = g a) → l.filterMap f = l.filterMap g
  | [], _ => rfl
  | a :: l, h => by
    rw [List.filterMap_cons, List.filterMap_cons, h a (List.mem_cons_self ..), fm_congr fun b hb => h b (List.mem_cons_of_mem _ hb)]
def tRevS (te : TE) : TE := fun σ H Q => te σ H fun x H1 => ∃ z, x = .str z ∧ z.length ≤ sizeLine ∧ Q (.str (revS z)) H1
section
variable {X : Cx} {e : Expr} {te : TE}
def mulS (z : Str) (n : Int) : Str := ⟨(List.replicate n.toNat z.cps.toList).flatten.toArray⟩
def rMulS : R2 := fun x y H Q => ∃ z n, x = .str z ∧ y = .int n ∧ n < 1000000 ∧ -1000000 < n ∧ z.length * n.toNat ≤ 1000000 ∧ Q (.str (mulS z n)) H
end
end L2
set_option Elab.async false
set_option linter.all false
set_option maxRecDepth 100000
namespace L2
open PySem PySem.Spec PyProof.Rows
inductive IsI (K : PySem.W.Frag) (H : Hp) : V → String → Bool → Prop
  | i_int i : IsI K H (.int i) "int" true
  | i_bool i : IsI K H (.int i) "bool" false
  | i_str i : IsI K H (.int i) "str" false
  | i_list i : IsI K H (.int i) "list" false
  | i_tuple i : IsI K H (.int i) "tuple" false
  | i_dict i : IsI K H (.int i) "dict" false
  | b_int i : IsI K H (.bl i) "int" true
  | b_bool i : IsI K H (.bl i) "bool" true
  | b_str i : IsI K H (.bl i) "str" false
  | b_list i : IsI K H (.bl i) "list" false
  | b_tuple i : IsI K H (.bl i) "tuple" false
  | b_dict i : IsI K H (.bl i) "dict" false
  | s_int i : IsI K H (.str i) "int" false
  | s_bool i : IsI K H (.str i) "bool" false
  | s_str i : IsI K H (.str i) "str" true
  | s_list i : IsI K H (.str i) "list" false
  | s_tuple i : IsI K H (.str i) "tuple" false
  | s_dict i : IsI K H (.str i) "dict" false
  | n_int : IsI K H .non "int" false
  | n_bool : IsI K H .non "bool" false
  | n_str : IsI K H .non "str" false
  | n_list : IsI K H .non "list" false
  | n_tuple : IsI K H .non "tuple" false
  | n_dict : IsI K H .non "dict" false
  | lr_int a xs (h : SqL K H a xs) : IsI K H (.ref a) "int" false
  | lr_bool a xs (h : SqL K H a xs) : IsI K H (.ref a) "bool" false
  | lr_str a xs (h : SqL K H a xs) : IsI K H (.ref a) "str" false
  | lr_list a xs (h : SqL K H a xs) : IsI K H (.ref a) "list" true
  | lr_tuple a xs (h : SqL K H a xs) : IsI K H (.ref a) "tuple" false
  | lr_dict a xs (h : SqL K H a xs) : IsI K H (.ref a) "dict" false
  | tr_int a xs (h : SqT K H a xs) : IsI K H (.ref a) "int" false
  | tr_bool a xs (h : SqT K H a xs) : IsI K H (.ref a) "bool" false
  | tr_str a xs (h : SqT K H a xs) : IsI K H (.ref a) "str" false
  | tr_list a xs (h : SqT K H a xs) : IsI K H (.ref a) "list" false
  | tr_tuple a xs (h : SqT K H a xs) : IsI K H (.ref a) "tuple" true
  | tr_dict a xs (h : SqT K H a xs) : IsI K H (.ref a) "dict" false
  | dr_int a kvs (h : Rd H a (.dK kvs)) : IsI K H (.ref a) "int" false
  | dr_bool a kvs (h : Rd H a (.dK kvs)) : IsI K H (.ref a) "bool" false
  | dr_str a kvs (h : Rd H a (.dK kvs)) : IsI K H (.ref a) "str" false
  | dr_list a kvs (h : Rd H a (.dK kvs)) : IsI K H (.ref a) "list" false
  | dr_tuple a kvs (h : Rd H a (.dK kvs)) : IsI K H (.ref a) "tuple" false
  | dr_dict a kvs (h : Rd H a (.dK kvs)) : IsI K H (.ref a) "dict" true
def rIsi (K : PySem.W.Frag) : List V → Hp → VK → Prop := fun xs H Q => ∃ x T b, xs = [x, .ty T] ∧ IsI K H x T b ∧ Q (.bl b) H
theorem cr_isi {X : Cx} : CallR X (.builtin "isinstance") (rIsi X.K) := by
  intro pins s σ H xs us Q I r h
  obtain ⟨x, T, b, rfl, k, q⟩ := h
  obtain ⟨u, w', rfl, r1, r2⟩ := vals2 r
  cases r2
  cases k with
  | i_int => obtain ⟨t, rfl⟩ := r1; exact IsiPair.int_int ⟨.bl true, H, I, rfl, q⟩
  | i_bool => obtain ⟨t, rfl⟩ := r1; exact IsiPair.int_bool ⟨.bl false, H, I.tok _, rfl, q⟩
  | i_str => obtain ⟨t, rfl⟩ := r1; exact IsiPair.int_str ⟨.bl false, H, I.tok _, rfl, q⟩
  | i_list => obtain ⟨t, rfl⟩ := r1; exact IsiPair.int_list ⟨.bl false, H, I.tok _, rfl, q⟩
  | i_tuple => obtain ⟨t, rfl⟩ := r1; exact IsiPair.int_tuple ⟨.bl false, H, I.tok _, rfl, q⟩
  | i_dict => obtain ⟨t, rfl⟩ := r1; exact IsiPair.int_dict ⟨.bl false, H, I.tok _, rfl, q⟩
  | b_int => cases r1; exact IsiPair.bool_int ⟨.bl true, H, I, rfl, q⟩
  | b_bool => cases r1; exact IsiPair.bool_bool ⟨.bl true, H, I, rfl, q⟩
  | b_str => cases r1; exact IsiPair.bool_str ⟨.bl false, H, I.tok _, rfl, q⟩
  | b_list => cases r1; exact IsiPair.bool_list ⟨.bl false, H, I.tok _, rfl, q⟩
  | b_tuple => cases r1; exact IsiPair.bool_tuple ⟨.bl false, H, I.tok _, rfl, q⟩
  | b_dict => cases r1; exact IsiPair.bool_dict ⟨.bl false, H, I.tok _, rfl, q⟩
  | s_int => obtain ⟨t, rfl⟩ := r1; exact IsiPair.str_int ⟨.bl false, H, I.tok _, rfl, q⟩
  | s_bool => obtain ⟨t, rfl⟩ := r1; exact IsiPair.str_bool ⟨.bl false, H, I.tok _, rfl, q⟩
  | s_str => obtain ⟨t, rfl⟩ := r1; exact IsiPair.str_str ⟨.bl true, H, I, rfl, q⟩
  | s_list => obtain ⟨t, rfl⟩ := r1; exact IsiPair.str_list ⟨.bl false, H, I.tok _, rfl, q⟩
  | s_tuple => obtain ⟨t, rfl⟩ := r1; exact IsiPair.str_tuple ⟨.bl false, H, I.tok _, rfl, q⟩
  | s_dict => obtain ⟨t, rfl⟩ := r1; exact IsiPair.str_dict ⟨.bl false, H, I.tok _, rfl, q⟩
  | n_int => cases r1; exact IsiPair.NoneType_int ⟨.bl false, H, I.tok _, rfl, q⟩
  | n_bool => cases r1; exact IsiPair.NoneType_bool ⟨.bl false, H, I.tok _, rfl, q⟩
  | n_str => cases r1; exact IsiPair.NoneType_str ⟨.bl false, H, I.tok _, rfl, q⟩
  | n_list => cases r1; exact IsiPair.NoneType_list ⟨.bl false, H, I.tok _, rfl, q⟩
  | n_tuple => cases r1; exact IsiPair.NoneType_tuple ⟨.bl false, H, I.tok _, rfl, q⟩
  | n_dict => cases r1; exact IsiPair.NoneType_dict ⟨.bl false, H, I.tok _, rfl, q⟩
  | lr_int a xs h => cases r1; obtain ⟨its, _, pl, _⟩ := I.list h; obtain ⟨o, hx, hc, _⟩ := pl.isList; exact IsiPair.list_int hx hc ⟨.bl false, H, I.tok _, rfl, q⟩
  | lr_bool a xs h => cases r1; obtain ⟨its, _, pl, _⟩ := I.list h; obtain ⟨o, hx, hc, _⟩ := pl.isList; exact IsiPair.list_bool hx hc ⟨.bl false, H, I.tok _, rfl, q⟩
  | lr_str a xs h => cases r1; obtain ⟨its, _, pl, _⟩ := I.list h; obtain ⟨o, hx, hc, _⟩ := pl.isList; exact IsiPair.list_str hx hc ⟨.bl false, H, I.tok _, rfl, q⟩
  | lr_list a xs h => cases r1; obtain ⟨its, _, pl, _⟩ := I.list h; obtain ⟨o, hx, hc, _⟩ := pl.isList; exact IsiPair.list_list hx hc ⟨.bl true, H, I, rfl, q⟩
  | lr_tuple a xs h => cases r1; obtain ⟨its, _, pl, _⟩ := I.list h; obtain ⟨o, hx, hc, _⟩ := pl.isList; exact IsiPair.list_tuple hx hc ⟨.bl false, H, I.tok _, rfl, q⟩
  | lr_dict a xs h => cases r1; obtain ⟨its, _, pl, _⟩ := I.list h; obtain ⟨o, hx, hc, _⟩ := pl.isList; exact IsiPair.list_dict hx hc ⟨.bl false, H, I.tok _, rfl, q⟩
  | tr_int a xs h => cases r1; obtain ⟨its, _, ⟨o, hx, hc, _⟩, _⟩ := I.tuple h; exact IsiPair.tuple_int hx hc ⟨.bl false, H, I.tok _, rfl, q⟩
  | tr_bool a xs h => cases r1; obtain ⟨its, _, ⟨o, hx, hc, _⟩, _⟩ := I.tuple h; exact IsiPair.tuple_bool hx hc ⟨.bl false, H, I.tok _, rfl, q⟩
  | tr_str a xs h => cases r1; obtain ⟨its, _, ⟨o, hx, hc, _⟩, _⟩ := I.tuple h; exact IsiPair.tuple_str hx hc ⟨.bl false, H, I.tok _, rfl, q⟩
  | tr_list a xs h => cases r1; obtain ⟨its, _, ⟨o, hx, hc, _⟩, _⟩ := I.tuple h; exact IsiPair.tuple_list hx hc ⟨.bl false, H, I.tok _, rfl, q⟩
  | tr_tuple a xs h => cases r1; obtain ⟨its, _, ⟨o, hx, hc, _⟩, _⟩ := I.tuple h; exact IsiPair.tuple_tuple hx hc ⟨.bl true, H, I, rfl, q⟩
  | tr_dict a xs h => cases r1; obtain ⟨its, _, ⟨o, hx, hc, _⟩, _⟩ := I.tuple h; exact IsiPair.tuple_dict hx hc ⟨.bl false, H, I.tok _, rfl, q⟩
  | dr_int a kvs h => cases r1; obtain ⟨_, _, _, _, o, _, _, hx, ex, _⟩ := h.ok I.hok; exact IsiPair.dict_int hx ex.1 ⟨.bl false, H, I.tok _, rfl, q⟩
  | dr_bool a kvs h => cases r1; obtain ⟨_, _, _, _, o, _, _, hx, ex, _⟩ := h.ok I.hok; exact IsiPair.dict_bool hx ex.1 ⟨.bl false, H, I.tok _, rfl, q⟩
  | dr_str a kvs h => cases r1; obtain ⟨_, _, _, _, o, _, _, hx, ex, _⟩ := h.ok I.hok; exact IsiPair.dict_str hx ex.1 ⟨.bl false, H, I.tok _, rfl, q⟩
  | dr_list a kvs h => cases r1; obtain ⟨_, _, _, _, o, _, _, hx, ex, _⟩ := h.ok I.hok; exact IsiPair.dict_list hx ex.1 ⟨.bl false, H, I.tok _, rfl, q⟩
  | dr_tuple a kvs h => cases r1; obtain ⟨_, _, _, _, o, _, _, hx, ex, _⟩ := h.ok I.hok; exact IsiPair.dict_tuple hx ex.1 ⟨.bl false, H, I.tok _, rfl, q⟩
  | dr_dict a kvs h => cases r1; obtain ⟨_, _, _, _, o, _, _, hx, ex, _⟩ := h.ok I.hok; exact IsiPair.dict_dict hx ex.1 ⟨.bl true, H, I, rfl, q⟩
end L2
set_option Elab.async false
set_option linter.all false
set_option maxRecDepth 100000
namespace L2
open PySem PySem.Spec PyProof.Rows
section
variable {prog : Program} {w : World} {A : Around} {E : Value → Shared → Prop} {s : Shared}
def rriObj (j : Int) : Obj := { cls := .type "range_iterator", data := .fields #[rawInt (j - 1), rawInt j, rawInt (-1)] }
end
def iRevR (ta : TA) : TI := fun σ H R => ta σ H fun vs H1 => ∃ j : Int, vs = [.int j] ∧ 0 ≤ j ∧ j < 2 ^ 62 ∧ R (Itc (j - 1) (-1) j.toNat) H1
end L2
set_option Elab.async false
set_option linter.all false
set_option maxRecDepth 100000
namespace L2
open PySem PySem.Spec PyProof.Rows
structure Callee (P : Program) (w : World) (K : PySem.W.Frag) (mg : Str → Option Value) (base : Heap) (k : Nat) (x : Str) (ps : List Str) (sp : Sp) where
  f : Addr
  fd : FuncData
  ok : FnOk P w K mg base CX0 k f fd ps sp
  at_ : mg x = some (.ref f)
  kp : PySem.W.keepIn K (.ref f) = true
  bd : Binds K fd ps []
theorem pe_callC {X : Cx} {j k : Nat} {x : Str} {ps : List Str} {sp : Sp} {e : Expr} {es : List Expr} {t : TA} {p pos : Pos} (C : Callee X.prog X.w X.K X.mg X.base k x ps sp) (hr : Room j X.A) (hg : Gl X x) (ha : PA X (e :: es) t) (hk : k ≤ j := by decide)
    (hdb : (x == ("__debug__" : Str)) = false := by decide) (he : starEach (e :: es) X.env = (false, eval e X.env) :: starEach es X.env := by rfl) (hpl : (backTo pos (starEach es X.env)).any (·.1) = false := by rfl) :
    PE X (.Call (.Name x p) (e :: es) [] pos) (tCall sp [] E0 t) := pe_call C.ok (hr.mono hk) hg C.at_ C.kp C.bd .nil pass0 ha hdb he hpl
/-- what the text doesn't name itself -/
structure Glb (mg : Str → Option Value) : Prop where
  m_range : mg "range" = none
  m_len : mg "len" = none
  m_max : mg "max" = none
  m_min : mg "min" = none
  m_int : mg "int" = none
  m_bool : mg "bool" = none
  m_str : mg "str" = none
  m_list : mg "list" = none
  m_tuple : mg "tuple" = none
  m_dict : mg "dict" = none
  m_set : mg "set" = none
  m_sum : mg "sum" = none
  m_sorted : mg "sorted" = none
  m_enumerate : mg "enumerate" = none
  m_isinstance : mg "isinstance" = none
  m_reversed : mg "reversed" = none
  m_repr : mg "repr" = none
  m_all : mg "all" = none
  m_zip : mg "zip" = none
theorem Glb.mk_ {K : PySem.W.Frag} {h : Heap} {mg : Str → Option Value} (X : K.In h) (G : h.Ns mainGlobals mg)
    (a1 : PySem.W.nsIn K mainGlobals "range" = some none) (a2 : PySem.W.nsIn K mainGlobals "len" = some none) (a3 : PySem.W.nsIn K mainGlobals "max" = some none) (a4 : PySem.W.nsIn K mainGlobals "min" = some none)
    (a5 : PySem.W.nsIn K mainGlobals "int" = some none) (a6 : PySem.W.nsIn K mainGlobals "bool" = some none) (a7 : PySem.W.nsIn K mainGlobals "str" = some none) (a8 : PySem.W.nsIn K mainGlobals "list" = some none)
    (a9 : PySem.W.nsIn K mainGlobals "tuple" = some none) (a10 : PySem.W.nsIn K mainGlobals "dict" = some none) (a11 : PySem.W.nsIn K mainGlobals "set" = some none) (a12 : PySem.W.nsIn K mainGlobals "sum" = some none)
    (a13 : PySem.W.nsIn K mainGlobals "sorted" = some none) (a14 : PySem.W.nsIn K mainGlobals "enumerate" = some none) (a15 : PySem.W.nsIn K mainGlobals "isinstance" = some none) (a16 : PySem.W.nsIn K mainGlobals "reversed" = some none)
    (a17 : PySem.W.nsIn K mainGlobals "repr" = some none) (a18 : PySem.W.nsIn K mainGlobals "all" = some none) (a19 : PySem.W.nsIn K mainGlobals "zip" = some none) : Glb mg :=
  ⟨PySem.W.mg_none_of X G a1, PySem.W.mg_none_of X G a2, PySem.W.mg_none_of X G a3, PySem.W.mg_none_of X G a4, PySem.W.mg_none_of X G a5, PySem.W.mg_none_of X G a6, PySem.W.mg_none_of X G a7, PySem.W.mg_none_of X G a8, PySem.W.mg_none_of X G a9,
   PySem.W.mg_none_of X G a10, PySem.W.mg_none_of X G a11, PySem.W.mg_none_of X G a12, PySem.W.mg_none_of X G a13, PySem.W.mg_none_of X G a14, PySem.W.mg_none_of X G a15, PySem.W.mg_none_of X G a16, PySem.W.mg_none_of X G a17, PySem.W.mg_none_of X G a18, PySem.W.mg_none_of X G a19⟩
def tCut (t : TS) : TS := fun D σ H => ∃ R : St → Hp → Prop, t { D with nx := R } σ H ∧ ∀ σ' H', R σ' H' → D.nx σ' H'
theorem ps_cut {X : Cx} {st : Stmt} {t : TS} (h : PS X st t) : PS X st (tCut t) := by
  intro pins s σ H D I hq
  obtain ⟨R, h1, h2⟩ := hq
  refine thn (h pins s σ H _ I h1) fun fl s' q => ?_
  cases fl with
  | next => obtain ⟨σ', H', I', q⟩ := q; exact ⟨σ', H', I', h2 _ _ q⟩
  | _ => exact q
def tCutE (t : TE) : TE := fun σ H Q => ∃ R : VK, t σ H R ∧ ∀ v H', R v H' → Q v H'
def Kp (p : Addr) (H H' : Hp) : Prop := ∀ b o, H b = some o → b ≠ p → H' b = some o
theorem Kp.refl (p : Addr) (H : Hp) : Kp p H H := fun _ _ h _ => h
theorem Kp.trans {p : Addr} {H H1 H2 : Hp} (a : Kp p H H1) (b : Kp p H1 H2) : Kp p H H2 := fun c o h n => b c o (a c o h n) n
theorem Same.kp {H H' : Hp} (s : Same H H') (p : Addr) : Kp p H H' := fun b o h _ => s b o h
theorem Kp.new {p : Addr} {H H1 : Hp} (a : Kp p H H1) {q : Addr} {o : HO} (h : H1 q = none) : Kp p H (upd H1 q o) := fun b u e n => by
  have := a b u e n
  rw [upd_ne (ne_of_none this h)]; exact this
theorem Kp.set {p : Addr} {H H1 : Hp} (a : Kp p H H1) {o : HO} : Kp p H (upd H1 p o) := fun b u e n => by
  rw [upd_ne n]; exact a b u e n
/-- a new thing changed again -/
theorem Kp.over {p : Addr} {H H1 : Hp} (a : Kp p H H1) {q : Addr} {o : HO} (h : H q = none) : Kp p H (upd H1 q o) := fun b u e n => by
  rw [upd_ne (ne_of_none e h)]; exact a b u e n
theorem same_new {H : Hp} {p : Addr} (h : H p = none) (o : HO) : Same H (upd H p o) := fun b u q => by rw [upd_ne (ne_of_none q h)]; exact q
theorem Kp.seq {K : PySem.W.Frag} {p : Addr} {H H' : Hp} {a : Addr} {xs : List V} (e : Kp p H H') (hp : ∃ o, H p = some o ∧ Mut (some o)) (hne : a ≠ p) (h : SqL K H a xs) : SqL K H' a xs := by
  rcases h with (h | ⟨o, h⟩) | h
  · exact .inl (.inl (e _ _ h hne))
  · exact .inl (.inr ⟨o, e _ _ h hne⟩)
  · exact .inr h
structure HandAt (H : Hp) (p : Addr) : Prop where
  ex : ∃ d r : Int, H p = some (.lst [.int d, .int r]) ∧ 0 ≤ d ∧ 0 ≤ r ∧ r < 2147483587
theorem HandAt.kp {H H' : Hp} {p q : Addr} (h : HandAt H p) (k : Kp q H H') (n : p ≠ q) : HandAt H' p := by
  obtain ⟨d, r, e, z⟩ := h.ex
  exact ⟨d, r, k _ _ e n, z⟩
theorem HandAt.same {H H' : Hp} {p : Addr} (h : HandAt H p) (k : Same H H') : HandAt H' p := by
  obtain ⟨d, r, e, z⟩ := h.ex
  exact ⟨d, r, k _ _ e, z⟩
theorem HandAt.new {H : Hp} {p q : Addr} {o : HO} (h : HandAt H p) (n : H q = none) : HandAt (upd H q o) p := h.same (same_new n o)
theorem HandAt.ne {H : Hp} {p q : Addr} (h : HandAt H p) (n : H q = none) : q ≠ p := by
  obtain ⟨d, r, e, z⟩ := h.ex
  exact (ne_of_none e n).symm
theorem Kp.free {p : Addr} {H H' : Hp} (k : Kp p H H') (h : HandAt H' p) {q : Addr} (n : H' q = none) : H q = none := by
  cases e : H q with
  | none => rfl
  | some o =>
    have := k q o e (h.ne n)
    rw [n] at this; cases this
/-- a frozen or untracked thing is no hand -/
theorem HandAt.neL {K : PySem.W.Frag} {H : Hp} {p a : Addr} (h : HandAt H p) (o : Obj) (u : HO) (e : H a = some (.frz o u)) : a ≠ p := by
  obtain ⟨d, r, e', z⟩ := h.ex
  exact ne_of e e' (by intro z; cases z)
def spDraw : Sp := fun vs H Q _ => ∃ (p : Addr) (L : Int), vs = [.ref p, .int L] ∧ HandAt H p ∧ 0 < L ∧ L < 1073741824 ∧ ∀ (v : Int) (H' : Hp), 0 ≤ v → v < L → HandAt H' p → Kp p H H' → Q (.int v) H'
def spHand : Sp := fun vs H Q _ => ∃ c k : Int, vs = [.int c, .int k] ∧ ∀ (p : Addr) (H' : Hp), H p = none → HandAt H' p → Same H H' → Q (.ref p) H'
def spCells (K : PySem.W.Frag) : Sp := fun vs H Q _ => ∃ (a : Addr) (ns : List Int) (m : Int), vs = [.ref a, .int m] ∧ SqL K H a (ns.map V.int) ∧ ns.length ≤ 63 ∧ 0 ≤ m ∧ ∀ (l : Addr) (ts : List Addr) (H' : Hp), Same H H' → H l = none → H' l = some (.lst (ts.map V.ref)) → ts.length ≤ 64 →
  (∀ (j : Nat) (t : Addr), ts[j]? = some t → ∃ c : Int, H' t = some (.tup [.int j, .int c])) → Q (.ref l) H'
def spGreat (K : PySem.W.Frag) : Sp := fun vs H Q _ => ∃ (a : Addr) (ns : List Int), vs = [.ref a] ∧ SqL K H a (ns.map V.int) ∧ ns.length ≤ 63 ∧ ∀ b, Q (.bl b) H
def IsRow (x : Str) : Prop := ∀ c ∈ x.cps.toList, 97 ≤ c ∧ c ≤ 122
def spRow : Sp := fun vs H Q _ => ∃ (p : Addr) (n : Int), vs = [.ref p, .int n] ∧ HandAt H p ∧ 0 ≤ n ∧ n ≤ 200 ∧ ∀ (x : Str) (H' : Hp), IsRow x → (x.length : Int) = n → HandAt H' p → Kp p H H' → Q (.str x) H'
def spSize : Sp := fun vs H Q _ => ∃ (p : Addr) (m : Int) (b : Bool), vs = [.ref p, .int m, .bl b] ∧ HandAt H p ∧ 7 ≤ m ∧ m ≤ 80 ∧ ∀ (n : Int) (H' : Hp), 0 ≤ n → n ≤ 80 → HandAt H' p → Kp p H H' → Q (.int n) H'
def spLaw (K : PySem.W.Frag) : Sp := fun vs H Q _ => ∃ (a : Addr) (ns : List Int), vs = [.ref a] ∧ SqL K H a (ns.map V.int) ∧ ns.length ≤ 63 ∧ Only H ∧ ∀ H', Q (.bl true) H'
def Scr (K : PySem.W.Frag) (H : Hp) (a : Addr) (xs : List V) : Prop := (∃ o, H a = some (.frz o (.lst xs))) ∨
  ∃ (o : Obj) (its : Array Value) (n : Nat), K.lookup a = some o ∧ o.cls = .type "list" ∧ o.dict = none ∧ o.data = .seq its n ∧ its.size ≤ sizeLine ∧ Vals xs its.toList
theorem Scr.seq {K : PySem.W.Frag} {H : Hp} {a : Addr} {xs : List V} (h : Scr K H a xs) : SqL K H a xs := by
  rcases h with ⟨o, h⟩ | h
  · exact .inl (.inr ⟨o, h⟩)
  · exact .inr h
theorem Scr.of {K : PySem.W.Frag} {H : Hp} {a : Addr} {xs : List V} (h : SqL K H a xs) (O : Only H) : Scr K H a xs := by
  rcases h with (h | ⟨o, h⟩) | h
  · rcases O a with z | ⟨o, ys, z⟩
    · rw [z] at h; cases h
    · rw [z] at h; cases h
  · exact .inl ⟨o, h⟩
  · exact .inr h
theorem Scr.same {K : PySem.W.Frag} {H H' : Hp} {a : Addr} {xs : List V} (h : Scr K H a xs) (k : Same H H') : Scr K H' a xs := by
  rcases h with ⟨o, h⟩ | h
  · exact .inl ⟨o, k _ _ h⟩
  · exact .inr h
theorem Scr.kp {K : PySem.W.Frag} {H H' : Hp} {a p : Addr} {xs : List V} (h : Scr K H a xs) (hp : HandAt H p) (k : Kp p H H') : Scr K H' a xs := by
  rcases h with ⟨o, h⟩ | h
  · exact .inl ⟨o, k _ _ h (hp.neL (K := K) _ _ h)⟩
  · exact .inr h
theorem lay_ints : ∀ ns : List Int, PyData.canLayAll0 (ns.map PyData.int) = true
  | [] => rfl
  | n :: ns => by
    show (PyData.canLay0 (.int n) && PyData.canLayAll0 (ns.map PyData.int)) = true
    rw [lay_ints ns]; rfl
theorem depth_ints : ∀ ns : List Int, PyData.depthAll (ns.map PyData.int) = 0
  | [] => rfl
  | n :: ns => by
    show max (PyData.depth (.int n)) (PyData.depthAll (ns.map PyData.int)) = 0
    rw [depth_ints ns]; rfl
theorem shaped_ints (ns : List Int) : SeqAt.shaped (.list (ns.map PyData.int)) = true := by
  show (PyData.canLayAll0 (ns.map PyData.int) && decide (PyData.depthAll (ns.map PyData.int) + 1 ≤ 64)) = true
  rw [lay_ints, depth_ints]; rfl
theorem eqv_ints : ∀ ns ms : List Int, PyData.eqvAll (ns.map PyData.int) (ms.map PyData.int) = decide (ns = ms)
  | [], [] => rfl
  | n :: ns, m :: ms => by
    show ((n == m) && PyData.eqvAll (ns.map PyData.int) (ms.map PyData.int)) = _
    rw [eqv_ints ns ms, Bool.eq_iff_iff]
    simp
  | [], _ :: _ => by simp [PyData.eqvAll]
  | _ :: _, [] => by simp [PyData.eqvAll]
theorem dpAll_ints {K : PySem.W.Frag} {H : Hp} : ∀ ns : List Int, DpAll K H (ns.map V.int) (ns.map PyData.int)
  | [] => .nil
  | n :: ns => .cons (.int n) (dpAll_ints ns)
theorem Dp.ints {K : PySem.W.Frag} {H : Hp} {a : Addr} {ns : List Int} (h : SqL K H a (ns.map V.int)) : Dp K H (.ref a) (.list (ns.map PyData.int)) := .lst h (dpAll_ints ns)
theorem eqv_list_ints (ns ms : List Int) : PyData.eqv (.list (ns.map PyData.int)) (.list (ms.map PyData.int)) = decide (ns = ms) := eqv_ints ns ms
theorem map_cut (ns : List Int) (lo hi : Option Int) : cutV (ns.map V.int) lo hi = ((ns.drop (HT.sIx ns.length 0 lo)).take (HT.sIx ns.length ns.length hi - HT.sIx ns.length 0 lo)).map V.int := by
  unfold cutV
  rw [List.length_map, List.map_take, List.map_drop]
end L2
set_option Elab.async false
set_option linter.all false
set_option maxRecDepth 100000
namespace L2
open PySem PySem.Spec PyProof.Rows
theorem len_cps (x : Str) : x.length = x.cps.toList.length := by show x.cps.size = _; rw [Array.length_toList]
theorem app_cps (x y : Str) : (x ++ y).cps.toList = x.cps.toList ++ y.cps.toList := by
  show (x.cps ++ y.cps).toList = _
  rw [Array.toList_append]
theorem rev_cps (x : Str) : (revS x).cps.toList = x.cps.toList.reverse := by simp [revS]
theorem cut_cps (x : Str) (lo hi : Option Int) : (cutS x lo hi).cps.toList = (x.cps.toList.drop (HT.sIx x.length 0 lo)).take (HT.sIx x.length x.length hi - HT.sIx x.length 0 lo) := by simp [cutS]
theorem IsRow.app {x y : Str} (h : IsRow x) (h' : IsRow y) : IsRow (x ++ y) := fun c hc => by
  rw [app_cps] at hc
  rcases List.mem_append.mp hc with q | q
  · exact h c q
  · exact h' c q
theorem IsRow.rev {x : Str} (h : IsRow x) : IsRow (revS x) := fun c hc => by
  rw [rev_cps] at hc
  exact h c (List.mem_reverse.mp hc)
theorem sIx_pos (n d : Nat) {v : Int} (h : 0 ≤ v) : HT.sIx n d (some v) = min v.toNat n := by
  have e : v = ((v.toNat : Nat) : Int) := by omega
  rw [e, HT.sIx_nat]; congr 1
/-- one sign -/
def sg (c : Nat) : Str := ⟨#[c]⟩
theorem glued_eq_joinX (y : Str) (parts : List Str) : Txt.join y parts = Str.join y parts := TL.join_eq y parts
theorem join_sg : ∀ cs : List Nat, (Txt.join "" (cs.map sg)).cps.toList = cs := by
  intro cs
  rw [glued_eq_joinX]
  have key : ∀ cs : List Nat, (Str.join "" (cs.map sg)).cps.toList = cs := by
    intro cs
    induction cs with
    | nil => rfl
    | cons c cs ih =>
      cases cs with
      | nil => rfl
      | cons d ds =>
        show ((sg c ++ ("" : Str)) ++ Str.join "" ((d :: ds).map sg)).cps.toList = _
        rw [app_cps, ih, app_cps]
        rfl
  exact key cs
theorem sum_sg (cs : List Nat) : ((cs.map sg).map (·.length)).sum = cs.length := by
  induction cs with
  | nil => rfl
  | cons c cs ih => rw [List.map_cons, List.map_cons, List.sum_cons, ih]; show 1 + cs.length = _; rw [List.length_cons]; omega
theorem at_in {α : Type} {xs : List α} {v : Int} (h0 : 0 ≤ v) (h1 : v < xs.length) : ∃ x, x ∈ xs ∧ xs[v.toNat]? = some x ∧ atI xs v = some x := by
  have hk : v.toNat < xs.length := by omega
  have e : v = ((v.toNat : Nat) : Int) := by omega
  have q : xs[v.toNat]? = some xs[v.toNat] := List.getElem?_eq_getElem hk
  refine ⟨xs[v.toNat], List.getElem_mem hk, q, ?_⟩
  have := atI_nat q
  rw [← e] at this
  exact this
theorem small80 {n : Nat} (h : n ≤ 100000) : n ≤ sizeLine := Nat.le_trans h (by decide)
end L2
set_option Elab.async false
set_option linter.all false
set_option maxRecDepth 100000
namespace L2
open PySem PySem.Spec PyProof.Rows
structure CalleeM (P : Program) (w : World) (K : PySem.W.Frag) (mg : Str → Option Value) (base : Heap) (k : Nat) (C : Addr) (m : Str) (ps : List Str) (sp : Sp) where
  f : Addr
  fd : FuncData
  ok : FnOk P w K mg base CX0 k f fd ps sp
  cl : Cls K C
  me : Meth K C m f
  bd : Binds K fd ps []
structure CalleeI (P : Program) (w : World) (K : PySem.W.Frag) (mg : Str → Option Value) (base : Heap) (k : Nat) (C : Addr) (x : Str) (ps : List Str) (sp : Sp) where
  f : Addr
  fd : FuncData
  ok : FnOk P w K mg base CX0 k f fd ps sp
  mk_ : Mk K C f
  at_ : mg x = some (.ref C)
  bd : Binds K fd ps []
def nxtL : List Nat → Nat → Str → Option Nat
  | [], _, _ => none
  | c :: cs, k, x => if sg c = x then some k else nxtL cs (k + 1) x
def nxt (cs : List Nat) (i : Nat) (x : Str) : Option Nat := nxtL (cs.drop i) i x
def optV : Option Nat → V
  | none => .non
  | some j => .int j
end L2
set_option Elab.async false
set_option linter.all false
set_option maxRecDepth 100000
namespace L2
open PySem PySem.Spec PyProof.Rows
/-- what stands behind the first c -/
def aft (c : Nat) : List Nat → Option (List Nat)
  | [] => none
  | x :: xs => if x = c then some xs else aft c xs
/-- what stands ahead of the last c -/
def bef (c : Nat) : List Nat → Option (List Nat)
  | [] => none
  | x :: xs => match bef c xs with
    | some r => some (x :: r)
    | none => if x = c then some [] else none
theorem aft_len {c : Nat} : ∀ {xs r : List Nat}, aft c xs = some r → r.length < xs.length
  | [], r, h => by cases h
  | x :: xs, r, h => by
    unfold aft at h
    split at h
    · cases h; exact Nat.lt_succ_self _
    · exact Nat.lt_succ_of_lt (aft_len h)
theorem aft_none {c : Nat} : ∀ {xs : List Nat}, aft c xs = none ↔ c ∉ xs
  | [] => by simp [aft]
  | x :: xs => by
    unfold aft
    by_cases h : x = c
    · simp [h]
    · rw [if_neg h, aft_none, List.mem_cons, not_or]
      exact ⟨fun q => ⟨fun z => h z.symm, q⟩, fun q => q.2⟩
/-- how many of a length -/
def dn : List Nat → Nat → Int
  | _, 0 => 1
  | [], _ + 1 => 0
  | c :: cs, n + 1 => dn cs (n + 1) + dn cs n - (match _h : aft c cs with | none => 0 | some r => dn r n)
termination_by xs n => (xs.length, n)
decreasing_by
  · apply Prod.Lex.left; exact Nat.lt_succ_self _
  · apply Prod.Lex.left; exact Nat.lt_succ_self _
  · apply Prod.Lex.left; exact Nat.lt_succ_of_lt (aft_len _h)
def oI (f : List Nat → Int) (o : Option (List Nat)) : Int := match o with | none => 0 | some r => f r
/-- how many in all -/
def mn : List Nat → Int
  | [] => 1
  | c :: cs => 2 * mn cs - (match _h : aft c cs with | none => 0 | some r => mn r)
termination_by xs => xs.length
decreasing_by
  · exact Nat.lt_succ_self _
  · exact Nat.lt_succ_of_lt (aft_len _h)
def sumTo (f : Nat → Int) : Nat → Int
  | 0 => 0
  | m + 1 => sumTo f m + f m
end L2
set_option Elab.async false
set_option linter.all false
set_option maxRecDepth 100000
namespace L2
open PySem PySem.Spec PyProof.Rows
def IteS (x : Str) : It :=
  ⟨fun i _ => i < x.cps.size, fun i H v H' => ∃ T c, v = .ref T ∧ H T = none ∧ x.cps[i]? = some c ∧ H' = upd H T (.tup [.int (i : Nat), .str ⟨#[c]⟩]), fun i _ => x.cps.size ≤ i⟩
def drawsS {prog : Program} {w : World} {A : Around} (hh : A.handled = none) (it : Addr) (x : Str) (t : Tok) (ty : String) (hty : ty = "str_ascii_iterator" ∨ ty = "str_iterator") :
    Draws prog w A it [it] x.cps.size (fun i v => ∃ c u, x.cps[i]? = some c ∧ v = .str ⟨#[c]⟩ u) (fun i h => h.IsStrIter it ty x t i) := by
  rcases hty with e | e
  · rw [e]; exact Draws.strAscii hh it x t
  · rw [e]; exact Draws.strWide hh it x t
theorem strIterType_of (x : Str) : strIterType x = "str_ascii_iterator" ∨ strIterType x = "str_iterator" := by
  unfold strIterType; split
  · exact .inl rfl
  · exact .inr rfl
def iEnumS (ta : TA) : TI := fun σ H R => ta σ H fun vs H1 => ∃ x, vs = [.str x] ∧ R (IteS x) H1
end L2
set_option Elab.async false
set_option linter.all false
set_option maxRecDepth 100000
namespace L2
open PySem PySem.Spec PyProof.Rows
end L2
set_option Elab.async false
set_option linter.all false
set_option maxRecDepth 100000
namespace L2
open PySem PySem.Spec PyProof.Rows
def revSObj (x : Str) (t : Tok) (i : Int) : Obj := { cls := .type "reversed", data := .fields #[.str x t, rawInt i] }
def IsRevS (h : Heap) (a : Addr) (x : Str) (t : Tok) (i : Int) : Prop := h.get? a = some (revSObj x t i)
section
variable {prog : Program} {w : World} {A : Around} {E : Value → Shared → Prop} {s : Shared}
theorem IsRevS.typeIs {a : Addr} {x : Str} {t : Tok} {i : Int} (h : IsRevS s.heap a x t i) : s.TypeIs (.ref a) "reversed" := ⟨_, h, rfl⟩
end
/-- the signs of a text from behind -/
def ItsR (x : Str) : It := ⟨fun i _ => i < x.cps.size, fun i H v H' => H' = H ∧ ∃ c, x.cps[x.cps.size - 1 - i]? = some c ∧ v = .str ⟨#[c]⟩, fun i _ => x.cps.size ≤ i⟩
def iRevS (ta : TA) : TI := fun σ H R => ta σ H fun vs H1 => ∃ x : Str, vs = [.str x] ∧ x.length ≤ sizeLine ∧ R (ItsR x) H1
end L2
set_option Elab.async false
set_option linter.all false
set_option maxRecDepth 100000
namespace L2
open PySem PySem.Spec PyProof.Rows
theorem lc_cnt {J : It} {n : Nat} (go : ∀ i H, i < n → J.go i H) (stop : ∀ i H, n ≤ i → J.stop i H) {g : TG} {tt : TT} {te : TE} {vs : List Nat} {σ : St} {H1 : Hp} {D : Addr} {Qd : Hp → Prop} (Pv : Nat → Hp → Prop) (h0 : Pv 0 (upd H1 D (.lst [])))
    (hs : ∀ i x H H', i < n → J.yld i H x H' → Pv i H → g x (wipe σ vs) H' fun σ2 H2 => wipe σ2 vs = wipe σ vs ∧ tt σ2 H2 fun b H3 =>
      if b = true then te σ2 H3 fun y H4 => ∃ acc, H4 D = some (.lst acc) ∧ acc.length < sizeLine ∧ Pv (i + 1) (upd H4 D (.lst (acc ++ [y]))) else Pv (i + 1) H3) (hd : ∀ H, Pv n H → Qd H) :
    ∃ W : Nat → Nat → Hp → Prop, (∃ m, W 0 m (upd H1 D (.lst []))) ∧ ∀ i m H, W i m H →
      (J.stop i H ∧ Qd H) ∨ (J.go i H ∧ ∃ Nx : Hp → Prop, (∀ H', Nx H' → ∃ m', m' < m ∧ W (i + 1) m' H') ∧ ∀ x H', J.yld i H x H' → g x (wipe σ vs) H' fun σ2 H2 => wipe σ2 vs = wipe σ vs ∧ tt σ2 H2 fun b H3 =>
        if b = true then te σ2 H3 fun y H4 => ∃ acc, H4 D = some (.lst acc) ∧ acc.length < sizeLine ∧ Nx (upd H4 D (.lst (acc ++ [y]))) else Nx H3) := by
  refine ⟨fun i m H => m = n - i ∧ i ≤ n ∧ Pv i H, ⟨n, by simp, Nat.zero_le _, h0⟩, ?_⟩
  rintro i m H ⟨rfl, hi, p⟩
  by_cases hlt : i < n
  · exact .inr ⟨go i H hlt, Pv (i + 1), fun H' p' => ⟨n - (i + 1), by omega, rfl, hlt, p'⟩, fun x H' y => hs i x H H' hlt y p⟩
  · have e : i = n := by omega
    subst e
    exact .inl ⟨stop _ _ (Nat.le_refl _), hd H p⟩
theorem lc_str {z : Str} {g : TG} {tt : TT} {te : TE} {vs : List Nat} {σ : St} {H1 : Hp} {D : Addr} {Qd : Hp → Prop} (Pv : Nat → Hp → Prop) (h0 : Pv 0 (upd H1 D (.lst [])))
    (hs : ∀ i c H, z.cps.toList[i]? = some c → Pv i H → g (.str (sg c)) (wipe σ vs) H fun σ2 H2 => wipe σ2 vs = wipe σ vs ∧ tt σ2 H2 fun b H3 =>
      if b = true then te σ2 H3 fun y H4 => ∃ acc, H4 D = some (.lst acc) ∧ acc.length < sizeLine ∧ Pv (i + 1) (upd H4 D (.lst (acc ++ [y]))) else Pv (i + 1) H3) (hd : ∀ H, Pv z.cps.toList.length H → Qd H) :
    ∃ W : Nat → Nat → Hp → Prop, (∃ m, W 0 m (upd H1 D (.lst []))) ∧ ∀ i m H, W i m H →
      ((Its z).stop i H ∧ Qd H) ∨ ((Its z).go i H ∧ ∃ Nx : Hp → Prop, (∀ H', Nx H' → ∃ m', m' < m ∧ W (i + 1) m' H') ∧ ∀ x H', (Its z).yld i H x H' → g x (wipe σ vs) H' fun σ2 H2 => wipe σ2 vs = wipe σ vs ∧ tt σ2 H2 fun b H3 =>
        if b = true then te σ2 H3 fun y H4 => ∃ acc, H4 D = some (.lst acc) ∧ acc.length < sizeLine ∧ Nx (upd H4 D (.lst (acc ++ [y]))) else Nx H3) := by
  have hl : z.cps.toList.length = z.cps.size := Array.length_toList
  refine lc_cnt (n := z.cps.toList.length) (fun i H h => by show i < z.cps.size; omega) (fun i H h => by show z.cps.size ≤ i; omega) Pv h0 (fun i x H H' hi y p => ?_) hd
  obtain ⟨rfl, c, hc, rfl⟩ := y
  exact hs i c _ (by rw [Array.getElem?_toList]; exact hc) p
end L2
set_option Elab.async false
set_option linter.all false
namespace L2
open PySem
/-- in how many ways ys is left of xs -/
def wys : List Nat → List Nat → Nat
  | _, [] => 1
  | [], _ :: _ => 0
  | x :: xs, y :: ys => wys xs (y :: ys) + if x = y then wys xs ys else 0
theorem wys_nil (xs : List Nat) : wys xs [] = 1 := by cases xs <;> rfl
theorem wys_none (y : Nat) (ys : List Nat) : wys [] (y :: ys) = 0 := rfl
theorem wys_cons (x y : Nat) (xs ys : List Nat) : wys (x :: xs) (y :: ys) = wys xs (y :: ys) + if x = y then wys xs ys else 0 := rfl
/-- a list of ints, by a function of the place -/
def tabI (k : Nat) (f : Nat → Int) : List V := (List.range k).map fun i => V.int (f i)
theorem tabI_congr {k : Nat} {f g : Nat → Int} (h : ∀ i, i < k → f i = g i) : tabI k f = tabI k g :=
  List.map_congr_left fun i hi => by rw [h i (List.mem_range.mp hi)]
theorem drop_at {α : Type} {xs : List α} {p : Nat} {x : α} (h : xs[p]? = some x) : xs.drop p = x :: xs.drop (p + 1) := by
  obtain ⟨h1, h2⟩ := List.getElem?_eq_some_iff.mp h
  rw [← h2]; exact List.drop_eq_getElem_cons h1
/-- the ways from each place on, of a row's codes -/
def wsuf (xs t : List Nat) : List V := tabI (xs.length + 1) (fun p => (wys (xs.drop p) t : Int))
/-- the ways of each beginning -/
def wpre (xs ys : List Nat) : List V := tabI (ys.length + 1) (fun j => (wys xs (ys.take j) : Int))
theorem wys_at {xs : List Nat} {p x : Nat} (h : xs[p]? = some x) (c : Nat) (t : List Nat) : wys (xs.drop p) (c :: t) = wys (xs.drop (p + 1)) (c :: t) + if x = c then wys (xs.drop (p + 1)) t else 0 := by
  rw [drop_at h, wys_cons]
end L2
set_option Elab.async false
set_option linter.all false
set_option maxRecDepth 100000
namespace L2
open PySem PySem.Spec PyProof.Rows
/-- xs[i] of a list, by values, 0 ≤ i -/
def gGetL (K : PySem.W.Frag) : V → V → Hp → VK → Prop := fun x y H Q => ∃ p xs i v, x = .ref p ∧ y = .int i ∧ SqL K H p xs ∧ 0 ≤ i ∧ atI xs i = some v ∧ Q v H
end L2
set_option Elab.async false
set_option linter.all false
set_option maxRecDepth 100000
namespace L2
open PySem PySem.Spec PyProof.Rows
def spWith : Sp := fun vs H Q _ => ∃ (z : Str) (c : Nat) (t : List Nat) (p : Addr), vs = [.str z, .str (sg c), .ref p] ∧ z.length ≤ 200 ∧ H p = some (.lst (wsuf z.cps.toList t)) ∧ ∀ (l : Addr) (H' : Hp), Same H H' → H l = none → H' l = some (.lst (wsuf z.cps.toList (c :: t))) → Q (.ref l) H'
def spFrom : Sp := fun vs H Q _ => ∃ z y : Str, vs = [.str z, .str y] ∧ z.length ≤ 200 ∧ y.length ≤ 200 ∧ ∀ (l : Addr) (rs : List Addr) (H' : Hp), Same H H' → H l = none → H' l = some (.lst (rs.map V.ref)) → rs.length = y.cps.toList.length + 1 → (∀ (j : Nat) (r : Addr), rs[j]? = some r → r ≠ l ∧ H' r = some (.lst (wsuf z.cps.toList (y.cps.toList.drop j)))) → Q (.ref l) H'
def spMany : Sp := fun vs H Q _ => ∃ z y : Str, vs = [.str z, .str y] ∧ z.length ≤ 200 ∧ y.length ≤ 200 ∧ ∀ H' : Hp, Same H H' → Q (.int (wys z.cps.toList y.cps.toList : Nat)) H'
def spWaysL : Sp := fun vs H Q _ => ∃ z y : Str, vs = [.str z, .str y] ∧ z.length ≤ 200 ∧ y.length ≤ 200 ∧ ∀ (l : Addr) (rs : List Addr) (H' : Hp), Same H H' → H' l = some (.lst (rs.map V.ref)) → rs.length = z.cps.toList.length + 1 → (∀ (j : Nat) (r : Addr), rs[j]? = some r → H' r = some (.lst (wpre (z.cps.toList.take j) y.cps.toList))) → Q (.ref l) H'
end L2
set_option Elab.async false
set_option linter.all false
set_option maxRecDepth 100000
namespace L2
open PySem PySem.Spec PyProof.Rows
def idx (c : Nat) : List Nat → Option Nat
  | [] => none
  | x :: xs => if x = c then some 0 else (idx c xs).map (· + 1)
/-- the dict of next places from p on -/
def entK : List Nat → Nat → List (Key × V)
  | [], _ => []
  | c :: cs, p => putK (entK cs (p + 1)) (Sum.inr (sg c)) (.int (p : Nat))
theorem sg_inj' {a b : Nat} (h : sg a = sg b) : a = b := by
  have e := congrArg (fun s : Str => s.cps.toList) h
  have e2 : [a] = [b] := e
  cases e2; rfl
def keysU (kvs : List (Key × V)) : Prop := (kvs.map (·.1)).Nodup
def gv (g : Nat → Int) : V → Int
  | .int i => g i.toNat
  | _ => 0
def sumV (g : Nat → Int) (kvs : List (Key × V)) : Int := (kvs.map fun kv => gv g kv.2).sum
structure TabX (H : Hp) (cs : List Nat) (refs : List Addr) : Prop where
  len : refs.length = cs.length + 1
  at_ : ∀ (i : Nat) (r : Addr), refs[i]? = some r → H r = some (.dK (entK (cs.drop i) i))
theorem TabX.same {H H' : Hp} {cs : List Nat} {refs : List Addr} (h : TabX H cs refs) (s : Same H H') : TabX H' cs refs := ⟨h.len, fun i r e => s _ _ (h.at_ i r e)⟩
def spTabX : Sp := fun vs H Q _ => ∃ z : Str, vs = [.str z] ∧ z.length ≤ 200 ∧ ∀ (l : Addr) (refs : List Addr) (H' : Hp), Same H H' → H l = none → H' l = some (.lst (refs.map V.ref)) → TabX H' z.cps.toList refs → Q (.ref l) H'
structure TabXI (H0 H : Hp) (cs : List Nat) (t : Nat) (d l : Addr) (refs : List Addr) : Prop where
  sm : Same H0 H
  nl : H0 l = none
  lst : H l = some (.lst (refs.map V.ref))
  len : refs.length = t + 1
  last : refs[t]? = some d
  at_ : ∀ (j : Nat) (r : Addr), refs[j]? = some r → r ≠ l ∧ H r = some (.dK (entK (cs.drop (cs.length - j)) (cs.length - j)))
def spManyFrom : Sp := fun vs H Q _ => ∃ (l : Addr) (refs : List Addr) (cs : List Nat), vs = [.ref l] ∧ H l = some (.lst (refs.map V.ref)) ∧ TabX H cs refs ∧ cs.length ≤ 200 ∧ ∀ (m : Addr) (H' : Hp), Same H H' → H m = none → H' m = some (.lst (tabI (cs.length + 1) fun i => mn (cs.drop i))) → Q (.ref m) H'
def spManyLeft : Sp := fun vs H Q _ => ∃ z : Str, vs = [.str z] ∧ z.length ≤ 200 ∧ ∀ H' : Hp, Same H H' → Q (.int (mn z.cps.toList)) H'
def dsuf (cs : List Nat) (n : Nat) : List V := tabI (cs.length + 1) fun i => dn (cs.drop i) n
def spOneLonger : Sp := fun vs H Q _ => ∃ (z : Str) (l p : Addr) (refs : List Addr) (n : Nat), vs = [.str z, .ref l, .ref p] ∧ z.length ≤ 200 ∧ H l = some (.lst (refs.map V.ref)) ∧ TabX H z.cps.toList refs ∧ H p = some (.lst (dsuf z.cps.toList n)) ∧
  ∀ (m : Addr) (H' : Hp), Same H H' → H m = none → H' m = some (.lst (dsuf z.cps.toList (n + 1))) → Q (.ref m) H'
def spManyOfL : Sp := fun vs H Q _ => ∃ (z : Str) (l : Addr) (refs : List Addr), vs = [.str z, .ref l] ∧ z.length ≤ 200 ∧ H l = some (.lst (refs.map V.ref)) ∧ TabX H z.cps.toList refs ∧
  ∀ (m : Addr) (rs : List Addr) (H' : Hp), Same H H' → H m = none → H' m = some (.lst (rs.map V.ref)) → rs.length = z.cps.toList.length + 1 → (∀ (n : Nat) (r : Addr), rs[n]? = some r → r ≠ m ∧ H' r = some (.lst (dsuf z.cps.toList n))) → Q (.ref m) H'
def spByLengths : Sp := fun vs H Q _ => ∃ z : Str, vs = [.str z] ∧ z.length ≤ 200 ∧ ∀ (m : Addr) (H' : Hp), Same H H' → H m = none → H' m = some (.lst (tabI (z.cps.toList.length + 1) (dn z.cps.toList))) → Q (.ref m) H'
end L2
set_option Elab.async false
set_option linter.all false
set_option maxRecDepth 100000
namespace L2
open PySem PySem.Spec PyProof.Rows
section
variable {X : Cx} {es : List Expr} {te : TE} {t : TA}
theorem pa_Const {c1 : Const} {c2 : Nat} {c3 : Pos} (ha : PE X (.Constant c1 c2 c3) te) (hr : PA X es t) : PA X ((.Constant c1 c2 c3) :: es) (tCons te t) := pa_cons ha hr rfl
theorem pa_Name {c1 : Str} {c2 : Pos} (ha : PE X (.Name c1 c2) te) (hr : PA X es t) : PA X ((.Name c1 c2) :: es) (tCons te t) := pa_cons ha hr rfl
theorem pa_BinOp {c1 : Expr} {c2 : Operator} {c3 : Expr} {c4 : Pos} (ha : PE X (.BinOp c1 c2 c3 c4) te) (hr : PA X es t) : PA X ((.BinOp c1 c2 c3 c4) :: es) (tCons te t) := pa_cons ha hr rfl
theorem pa_UnaryOp {c1 : UnaryOp} {c2 : Expr} {c3 : Pos} (ha : PE X (.UnaryOp c1 c2 c3) te) (hr : PA X es t) : PA X ((.UnaryOp c1 c2 c3) :: es) (tCons te t) := pa_cons ha hr rfl
theorem pa_Call {c1 : Expr} {c2 : List Expr} {c3 : List Keyword} {c4 : Pos} (ha : PE X (.Call c1 c2 c3 c4) te) (hr : PA X es t) : PA X ((.Call c1 c2 c3 c4) :: es) (tCons te t) := pa_cons ha hr rfl
theorem pa_Subscript {c1 c2 : Expr} {c3 : Pos} (ha : PE X (.Subscript c1 c2 c3) te) (hr : PA X es t) : PA X ((.Subscript c1 c2 c3) :: es) (tCons te t) := pa_cons ha hr rfl
theorem pa_List {c1 : List Expr} {c2 : Pos} (ha : PE X (.List c1 c2) te) (hr : PA X es t) : PA X ((.List c1 c2) :: es) (tCons te t) := pa_cons ha hr rfl
theorem pa_Tuple {c1 : List Expr} {c2 : Nat} {c3 : Pos} (ha : PE X (.Tuple c1 c2 c3) te) (hr : PA X es t) : PA X ((.Tuple c1 c2 c3) :: es) (tCons te t) := pa_cons ha hr rfl
theorem pa_Dict {c1 : List (Option Expr)} {c2 : List Expr} {c3 : Pos} (ha : PE X (.Dict c1 c2 c3) te) (hr : PA X es t) : PA X ((.Dict c1 c2 c3) :: es) (tCons te t) := pa_cons ha hr rfl
end
end L2
set_option Elab.async false
set_option linter.all false
set_option maxRecDepth 100000
namespace L2
open PySem PySem.Spec PyProof.Rows
def optI : Option Nat → Int
  | none => -1
  | some j => j
section
variable {X : Cx}
def rFind3 : V → List V → Hp → VK → Prop := fun x xs H Q => ∃ (z : Str) (c : Nat) (i : Int), x = .str z ∧ xs = [.str (sg c), .int i] ∧ 0 ≤ i ∧ Q (.int (optI (nxt z.cps.toList i.toNat (sg c)))) H
def prv (cs : List Nat) : Nat → Str → Option Nat
  | 0, _ => none
  | e + 1, x => if cs[e]?.map sg = some x then some e else prv cs e x
def rRfind4 : V → List V → Hp → VK → Prop := fun x xs H Q => ∃ (z : Str) (c : Nat) (j : Int), x = .str z ∧ xs = [.str (sg c), .int 0, .int j] ∧ 0 ≤ j ∧ j ≤ z.length ∧ Q (.int (optI (prv z.cps.toList j.toNat (sg c)))) H
end
end L2
set_option Elab.async false
set_option linter.all false
set_option maxRecDepth 100000
namespace L2
open PySem
/-- the places from at on that have the letter -/
def spotsN (xs : List Nat) (y : Nat) : Nat → Nat → List Nat
  | _, 0 => []
  | at_, d + 1 => if xs[at_]? = some y then at_ :: spotsN xs y (at_ + 1) d else spotsN xs y (at_ + 1) d
def spots (xs : List Nat) (y at_ : Nat) : List Nat := spotsN xs y at_ (xs.length - at_)
/-- which of the places, and what is left of the number -/
def pkL (F : Nat → Nat) : List Nat → Nat → Option (Nat × Nat)
  | [], _ => none
  | s :: sp, k => if k < F (s + 1) then some (s, k) else pkL F sp (k - F (s + 1))
/-- how many ways begin with a place of [at, at + d) -/
def ahs (xs : List Nat) (y : Nat) (ys : List Nat) (at_ : Nat) : Nat → Nat
  | 0 => 0
  | d + 1 => ahs xs y ys at_ d + if xs[at_ + d]? = some y then wys (xs.drop (at_ + d + 1)) ys else 0
/-- the way of a number -/
def wayP (xs : List Nat) : List Nat → Nat → Nat → Option (List Nat)
  | [], _, _ => some []
  | y :: ys, at_, n => match pkL (fun p => wys (xs.drop p) ys) (spots xs y at_) n with
    | none => none
    | some (s, k) => (wayP xs ys (s + 1) k).map (s :: ·)
/-- what the law tells of a way -/
inductive Way (xs : List Nat) : List Nat → Nat → List Nat → Nat → Prop
  | nil (at_ : Nat) : Way xs [] at_ [] 0
  | cons {y : Nat} {ys : List Nat} {at_ s : Nat} {w : List Nat} {k : Nat} (h1 : at_ ≤ s) (h2 : s < xs.length) (h3 : xs[s]? = some y) (h4 : k < wys (xs.drop (s + 1)) ys) (t : Way xs ys (s + 1) w k) : Way xs (y :: ys) at_ (s :: w) (ahs xs y ys at_ (s - at_) + k)
theorem Way.len {xs ys : List Nat} {at_ : Nat} {w : List Nat} {n : Nat} (h : Way xs ys at_ w n) : w.length = ys.length := by
  induction h with
  | nil => rfl
  | cons _ _ _ _ _ ih => rw [List.length_cons, List.length_cons, ih]
theorem Way.all {xs ys : List Nat} {at_ : Nat} {w : List Nat} {n : Nat} (h : Way xs ys at_ w n) : ∀ s ∈ w, at_ ≤ s ∧ s < xs.length := by
  induction h with
  | nil => exact fun _ h => nomatch h
  | cons h1 h2 h3 h4 t ih =>
    intro s hs
    rcases List.mem_cons.mp hs with rfl | hs
    · exact ⟨h1, h2⟩
    · obtain ⟨a, b⟩ := ih s hs
      exact ⟨by omega, b⟩
end L2
set_option Elab.async false
set_option linter.all false
set_option maxRecDepth 100000
namespace L2
open PySem PySem.Spec PyProof.Rows
def tLR (ta : TA) : TE := fun σ H Q => ta σ H fun vs H1 => ∃ j : Nat, vs = [.int (j : Int)] ∧ j ≤ 10000 ∧ ∀ p, H1 p = none → Q (.ref p) (upd H1 p (.lst (tabI j fun i => (i : Int))))
theorem pg_tupK {X : Cx} {K : PySem.W.Frag} (h : X.K = K) {es : List Expr} {k : Nat} {pos : Pos} {n : Nat} {t : TGs} (hs : PG X (.Tuple es k pos) (gTup X.K n t)) : PG X (.Tuple es k pos) (gTup K n t) := h ▸ hs
end L2
set_option Elab.async false
set_option linter.all false
set_option maxRecDepth 100000
namespace L2
open PySem PySem.Spec PyProof.Rows
def Big (i : Int) : Prop := i.natAbs < 2 ^ 200
theorem Way.fin {xs ys : List Nat} {at_ n : Nat} (h : Way xs ys at_ [] n) : n = 0 := by
  cases h
  rfl
end L2
set_option Elab.async false
set_option linter.all false
namespace L2
open PySem
/-- a new thing, its heap by a name -/
theorem upS {H J : Hp} {p : Addr} {o : HO} (h : upd H p o = J) (n : H p = none) : Same H J := h ▸ same_new n o
theorem upE {H J : Hp} {p : Addr} {o : HO} (h : upd H p o = J) : J p = some o := h ▸ upd_same
/-- a cut behind a test -/
def tCutT (t : TT) : TT := fun σ H Q => ∃ R : Bool → Hp → Prop, t σ H R ∧ ∀ b H', R b H' → Q b H'
theorem pt_cut {X : Cx} {e : Expr} {t : TT} (h : PT X e t) : PT X e (tCutT t) := by
  intro pins s σ H Q I hq
  obtain ⟨R, h1, h2⟩ := hq
  exact thn (h pins s σ H _ I h1) fun b s' ⟨H', I', q⟩ => ⟨H', I', h2 _ _ q⟩
end L2
set_option Elab.async false
set_option linter.all false
set_option maxRecDepth 100000
set_option maxHeartbeats 8000000
namespace Lv
open PySem L2
def top (i : Nat) : Stmt := PySem.Challenge.pw_leavings_k39_papers_of_arches_judged.main.body.getD i (.Pass ⟨0, 0, 0, 0⟩)
section
variable {P : Program} {w : World} {K : PySem.W.Frag} {mg : Str → Option Value} {base : Heap} {f : Addr} {fd : FuncData}
end
end Lv
set_option Elab.async false
set_option linter.all false
set_option maxRecDepth 100000
namespace L2
open PySem PySem.Spec PyProof.Rows
abbrev tabO (ps : Array Value) : Obj := { cls := .none, data := .fields ps }
def TabP (P : Addr) : Heap → Prop := fun h => ∃ ps : Array Value, h.get? P = some (tabO ps) ∧ TriplesOk ps.toList
theorem TabP.ok {Pg : Program} {w : World} {H : Hp} {h : Heap} {P : Addr} (t : TabP P h) : ObjOk Pg w H h P (.ext (TabP P)) :=
  ⟨t, let ⟨ps, e, _⟩ := t; ⟨_, e⟩, fun h1 h2 ⟨ps, e, r⟩ k => ⟨ps, k _ e, r⟩⟩
theorem upd_id {H : Hp} {a : Addr} {o : HO} (e : H a = some o) : upd H a o = H := by
  funext b
  unfold upd
  split
  · rename_i z; rw [z, e]
  · rfl
/-- what is written of a code object -/
structure CodeK (K : PySem.W.Frag) (c P : Addr) : Prop where
  ex : ∃ o vs file tf flags tg inF text tt, K.lookup c = some o ∧ o.cls = .type "code" ∧ o.data = .fields vs ∧ vs[11]? = some (.ref P) ∧ vs.getD 11 .none = .ref P ∧ vs.getD 18 .none = .str file tf ∧
    vs.getD 7 .none = .int flags tg ∧ vs.getD 9 .none = .bool inF ∧ vs.getD 10 .none = .int text tt ∧ c ≠ P
theorem CodeK.at {K : PySem.W.Frag} {c P : Addr} {h : Heap} {ps : Array Value} (C : CodeK K c P) (X : K.In h) (hP : h.get? P = some (tabO ps)) (ht : TriplesOk ps.toList) : h.IsCode c P ps ∧ h.TableAt c P ps := by
  obtain ⟨o, vs, file, tf, flags, tg, inF, text, tt, e1, e2, e3, e4, f3, f4, f5, f6, f7, f11⟩ := C.ex
  have e := X _ _ e1
  exact ⟨⟨o, vs, file, tf, flags, tg, inF, text, tt, _, e, e3, f3, f4, f5, f6, f7, hP, rfl, ht, f11⟩, ⟨o, vs, e, e2, e3, e4⟩, hP⟩
structure BModB (base : Heap) (mg : Str → Option Value) : Prop where
  ex : ∃ bm ob, mg "__builtins__" = some (.ref bm) ∧ bm ≠ builtinsNs ∧ base.get? bm = some ob ∧ ob.cls = .type "module" ∧ ob.dict = some builtinsNs ∧ ob.data = .plain
section
variable {prog : Program} {w : World} {A : Around} {E : Value → Shared → Prop} {s : Shared}
theorem genexprCode_found {env : Env} {c P : Addr} {ps : Array Value} {pos : Pos} {qualname : Str} {scope : Scope} {cv : Value} {Q : Value → Shared → Prop} (hc : env.code = .ref c) (hok : s.heap.IsCode c P ps) (hf : codeAmong pos ps.toList = some cv) (hQ : Q cv s) :
    wpAny (model prog w) A (genexprCode env pos qualname scope) Q E s := by
  obtain ⟨o, vs, file, tf, flags, tg, inF, text, tt, op, ho, hd, h11, h2, h7, h9, h10, hop, hpd, htr, hne⟩ := id hok
  unfold genexprCode codeAt
  rw [hc, if_neg (show ¬ ((Value.ref c == Value.none) = true) from Bool.false_ne_true)]
  refine wpAny_bind (wpAny_fieldsOf ho hd ?_)
  rw [h11]
  refine wpAny_bind (wpAny_fieldsOf hop hpd ?_)
  rw [hf]
  exact wpAny_pure hQ
theorem genexprCode_any {env : Env} {c P : Addr} {ps : Array Value} {pos : Pos} {qualname : Str} {scope : Scope} (hc : env.code = .ref c) (hok : s.heap.IsCode c P ps) (htab : s.heap.TableAt c P ps) :
    wpAny (model prog w) A (genexprCode env pos qualname scope) (fun _ s3 => ∃ h3 tk, s3 = { s with heap := h3, toks := tk } ∧ Heap.ExtBut P s.heap h3 ∧ s.heap.objs.size ≤ h3.objs.size ∧ TabP P h3) E s := by
  obtain ⟨_, _, _, _, _, _, _, _, _, _, _, _, _, _, _, _, _, _, _, htr, _⟩ := id hok
  cases hf : codeAmong pos ps.toList with
  | some cv => exact genexprCode_found hc hok hf ⟨s.heap, s.toks, rfl, Heap.ExtBut.refl _ _, Nat.le_refl _, ps, htab.2, htr⟩
  | none =>
    refine wpAny_genexprCodeX hc hok htab hf fun c' h' tk hx hge hlt hcode _ htab' _ => ⟨h', tk, rfl, hx, Nat.le_trans hge (Nat.le_of_lt hlt), _, htab'.2, ?_⟩
    obtain ⟨_, _, _, _, _, _, _, _, _, _, _, _, _, _, _, _, _, _, hpd', htr', _⟩ := hcode
    exact htr'
end
theorem Inv.grow {X : Cx} {pins : List (Addr × Obj)} {σ : St} {H : Hp} {s : Shared} {P : Addr} {h' : Heap} {t' : Nat} (I : Inv X pins σ H s) (hP : H P = some (.ext (TabP P))) (hx : Heap.ExtBut P s.heap h') (ht : TabP P h') :
    Inv X pins σ H { s with heap := h', toks := t' } := by
  have := I.write (x := P) (e := P) (o := .ext (TabP P)) (h' := h') (t' := t') (by rw [hP]; trivial) (.inl rfl) (fun b u hb e => hx b u hb e) (let ⟨ps, e, _⟩ := ht; ⟨_, e⟩) ht.ok
  rw [upd_id hP] at this
  exact this
/-- a record of ours has turned, generators were made and ran -/
theorem Inv.ran {X : Cx} {pins : List (Addr × Obj)} {σ : St} {H : Hp} {s : Shared} {h' : Heap} {it : Addr} {g' : Array GenState} {d' : Drawn} {t' : Nat} (I : Inv X pins σ H s) (k : ∀ b o, b ≠ it → s.heap.get? b = some o → h'.get? b = some o)
    (f : FpOk X pins H it) (hg : AllBare g') : Inv X pins σ H { s with heap := h', gens := g', drawn := d', toks := t' } := by
  obtain ⟨f0, f1, f2, f3, f4, f5⟩ := f
  have nit : ∀ b u, H b = some u → b ≠ it := fun b u e z => by rw [z, f0] at e; cases e
  refine I.step (ch := [it]) (fun b hb => ?_) (fun b o _ _ hc e _ => k b o (fun z => hc (by simp [z])) e) (fun b o _ _ hc e _ => ⟨o.slots, k b o (fun z => hc (by simp [z])) e⟩) (fun _ _ _ _ n => n)
    (fun b o hc e => ⟨o, k b o (fun z => hc (by simp [z])) e⟩) (fun _ _ e => e) (fun _ _ _ e => e) (fun b ps e => ⟨#[], by rw [e]; simp⟩) (fun m hm => ?_) (fun b u e => ?_) hg
  · have e : b = it := by simpa using hb
    subst e
    exact ⟨f3, f1, f4, f5⟩
  · obtain ⟨o, es, ep, ho, r⟩ := hm
    exact ⟨o, es, ep, k _ o (Ne.symm f1) ho, r⟩
  · refine (I.hok b u e).stay (fun c v hc q => k c v ?_ q) (fun _ q => q) fun _ _ q => q
    rcases hc with rfl | hc
    · exact nit _ _ e
    · exact nit _ _ hc
end L2
set_option Elab.async false
set_option linter.all false
set_option maxRecDepth 100000
namespace L2
open PySem PySem.Spec PyProof.Rows
/-- what is asked of each sign -/
def ElS (prog : Program) (w : World) (D U : Nat) (scope : Scope) (cl : List (Str × Addr)) (x : Str) (elt : Expr) (env : Env) (pr : Nat → Bool) : Prop :=
  ∀ (A' : Around) (E' : Value → Shared → Prop) (C : Addr) (code : Value) (c : Nat) (u : Tok) (s₂ : Shared) (m₂ : Str → Option Value), A'.handled = none → A'.depth ≤ D → A'.units ≤ U → s₂.heap.Ns C m₂ → m₂ x = some (.str ⟨#[c]⟩ u) →
    wpAny (model prog w) A' (eval elt (genEnv scope cl C code builtinsNs env)) (fun y s₃ => y = .bool (pr c) ∧ Keeps s₂ s₃) E' s₂
def tAllS (P : Addr) (pr : Nat → Bool) (te : TE) : TE := fun σ H Q => te σ H fun v H1 => ∃ z : Str, v = .str z ∧ H1 P = some (.ext (TabP P)) ∧ Q (.bl (z.cps.toList.all pr)) H1
theorem all_at (l : List Nat) (pr f : Nat → Bool) (hf : ∀ j c, l[j]? = some c → f j = pr c) : (List.range l.length).all f = l.all pr := by
  rw [Bool.eq_iff_iff, List.all_eq_true, List.all_eq_true]
  constructor
  · intro h b hb
    obtain ⟨j, hj, rfl⟩ := List.getElem_of_mem hb
    rw [← hf j _ (List.getElem?_eq_getElem hj)]
    exact h j (List.mem_range.mpr hj)
  · intro h j hj
    have hj' := List.mem_range.mp hj
    rw [hf j _ (List.getElem?_eq_getElem hj')]
    exact h _ (List.getElem_mem hj')
theorem passing_all (n : Nat) : passing (fun _ => true) n 0 = List.range n := by simp [passing]
section
variable {X : Cx} {iter elt : Expr} {te : TE} {x : Str} {px p gpos pos : Pos} {scope : Scope} {cl : List (Str × Addr)} {c P : Addr} {k : Nat} {pr : Nat → Bool}
theorem pe_allS (hg : Gl X "all") (hm : X.mg "all" = none) (hr : Room k X.A) (hcode : X.env.code = .ref c) (ck : CodeK X.K c P) (bm : BModB X.base X.mg) (hi : PE X iter te)
    (hel : ElS X.prog X.w (X.A.depth + 1) (X.A.units + 8) scope cl x elt X.env pr)
    (hco : scope.isCoroutine = false := by rfl) (hclos : closureFor scope X.env = pure cl := by rfl) (hcell : ∀ y ∈ scope.names, y.2 ≠ .cell := by decide) (h0 : scope.names.lookup (".0" : Str) = some NameKind.local := by rfl)
    (hx : scope.names.lookup x = some .local := by rfl) (hkind : scope.kind = .function := by rfl) (hs : ∀ y, genFold iter X.env y = pure y := by intro _; rfl)
    (he : starEach [Expr.GeneratorExp elt [⟨.Name x px, iter, [], 0⟩] scope gpos] X.env = [(false, eval (.GeneratorExp elt [⟨.Name x px, iter, [], 0⟩] scope gpos) X.env)] := by rfl) :
    PE X (.Call (.Name "all" p) [.GeneratorExp elt [⟨.Name x px, iter, [], 0⟩] scope gpos] [] pos) (tAllS P pr te) := by
  intro pins s σ H Q I h
  refine wpAny_Call_Name_kw (ld_blt I hg hm (u := .builtin "all") (by decide +kernel) ?_)
  refine PyProof.Rows.callWith_builtin1 ?_ he rfl
  rw [he]
  show wpAny _ _ (spliced ((false, eval _ X.env) :: backTo pos [])) _ _ s
  refine Calls.spliced_cons (wpAny_GeneratorExp_walksQD hr.hd hco hclos hcell h0 hx hkind hr.depth (thn (hi pins s σ H _ I h) fun v s1 ⟨y, H1, I1, r1, z, ez, hP, q⟩ => ?_) hs)
  subst ez
  obtain ⟨t, rfl⟩ := r1
  refine wpAny_pyIter_strU ?_
  have I2 : Inv X pins σ H1 { s1 with heap := s1.heap.push { cls := .type (strIterType z), data := .fields #[.str z t, .int 0 0] } } := I1.kept (t' := s1.toks) fun b o e => Heap.get?_push_of_some _ e
  have hit2 : (s1.heap.push { cls := .type (strIterType z), data := .fields #[.str z t, .int 0 0] }).IsStrIter s1.heap.objs.size (strIterType z) z t 0 := ⟨_, Heap.get?_push_size _ rfl, rfl, rfl⟩
  refine ⟨I2.nolimit, ?_⟩
  obtain ⟨⟨ps, hps, htr⟩, _⟩ := I2.hok P _ hP
  obtain ⟨isC, tabA⟩ := ck.at I2.kIn hps htr
  refine wpAny_mono (genexprCode_any (prog := X.prog) (w := X.w) (A := X.A) (E := X.xe) hcode isC tabA) (fun code s3 h3 => ?_) fun _ _ e => e
  obtain ⟨h3, tk3, rfl, hx3, hsz3, ht3⟩ := h3
  have I3 : Inv X pins σ H1 { s1 with heap := h3, toks := tk3 } := I2.grow (t' := tk3) hP hx3 ht3
  have hPlt : P < s1.heap.objs.size := I1.hok.lt hP
  have hPI : s1.heap.objs.size ≠ P := Nat.ne_of_gt hPlt
  have hit3 : h3.IsStrIter s1.heap.objs.size (strIterType z) z t 0 := let ⟨o, e, r⟩ := hit2; ⟨o, hx3 _ _ hPI e, r⟩
  have hIlt : s1.heap.objs.size < h3.objs.size := by
    have := Heap.size_push s1.heap { cls := .type (strIterType z), data := .fields #[.str z t, .int 0 0] }
    have h2 : (s1.heap.push { cls := .type (strIterType z), data := .fields #[.str z t, .int 0 0] }).objs.size ≤ h3.objs.size := hsz3
    omega
  obtain ⟨bmA, ob, b1, b2, b3, b4, b5, b6⟩ := bm.ex
  refine wpAny_builtinsFor (m := X.mg) (by rw [I.ok.glob]; exact I3.mod.glob.keeps I3.bk) b1 b2 (I3.bk _ _ b3) b4 b5 b6 ?_
  have W : ∀ A' : Around, A'.handled = none → Walks X.prog X.w A' s1.heap.objs.size [s1.heap.objs.size] [s1.heap.objs.size] z.cps.size (SignAt z) (fun i h => h.IsStrIter s1.heap.objs.size (strIterType z) z t i) := fun A' hA => by
    rcases strIterType_of z with e | e
    · rw [e]; exact Walks.strAscii hA _ z t
    · rw [e]; exact Walks.strWide hA _ z t
  have hclt : cStatics < s1.heap.objs.size := let ⟨_, hn, _⟩ := I1.nolimit; hn.lt
  refine ⟨s1.heap.objs.size, [s1.heap.objs.size], [s1.heap.objs.size], z.cps.size, SignAt z, _, fun _ => true, fun i y => ∃ c, z.cps[i]? = some c ∧ y = .bool (pr c), rfl, W, hit3, fun b hb => ?_, I3.nolimit, fun hmem => ?_, fun href hh => ⟨?_, ?_⟩, fun a h₅ tk gs hgb hag hsz₅ hk₅ WS hat => ?_⟩
  · rw [List.mem_singleton.mp hb]; exact hIlt
  · exact absurd (List.mem_singleton.mp hmem) (Nat.ne_of_lt hclt)
  · intro A' E' i v s₂ m₂ hA _ _ _ _ _ _
    exact wpAny_pure ⟨rfl, s₂.heap, s₂.toks, rfl, fun _ _ e => e⟩
  · intro A' E' i v s₂ m₂ hA hD hU hv _ hn hmx _
    obtain ⟨c', u, hc', rfl⟩ := hv
    exact wpAny_mono (hel A' E' _ code c' u s₂ m₂ hA hD hU hn hmx) (fun y s₃ r => ⟨⟨c', hc', r.1⟩, r.2⟩) fun _ _ e => e
  · refine Calls.spliced_nil ?_
    have WS1 := WS.in4_1
    refine call_all_walkS (WS1.self 0 _ _ _ hat ⟨a, _, _, _, _, _, _, fun j => match z.cps[j]? with | some c => pr c | none => true, rfl, WS1, hat, ?_, fun s' hm' => ?_⟩)
    · intro j v s Q E hv hQ
      obtain ⟨i, hi', c', hc', rfl⟩ := hv
      rw [passing_all] at hi'
      have : i = j := by
        obtain ⟨hl, e⟩ := List.getElem?_eq_some_iff.mp hi'
        rw [List.getElem_range] at e; exact e.symm
      subst this
      simp only [hc'] at hQ
      exact wpAny_truthy_bool hQ
    · obtain ⟨hh, g', d', tt, os'⟩ := s'
      have ho : os' = s1.os := hm'.os
      subst ho
      have hb : AllBare g' := AllBare.movedS (AllBare.push I3.bare hgb) hm'
      have kk : ∀ b o, b ≠ s1.heap.objs.size → h3.get? b = some o → hh.get? b = some o := fun b o hb e => hm'.heap b o (fun hmem => by
        rcases List.mem_cons.mp hmem with e1 | e1
        · exact absurd (Heap.lt_size e) (by rw [e1]; exact Nat.lt_irrefl _)
        · exact hb (List.mem_singleton.mp e1)) (hk₅ b o e)
      have I6 : Inv X pins σ H1 { s1 with heap := hh, gens := g', drawn := d', toks := tt } := I3.ran (h' := hh) (it := s1.heap.objs.size) kk (I1.fpOk (Nat.le_refl _) (I1.hok.fresh (Nat.le_refl _))) hb
      refine ⟨.bl _, H1, I6, ?_, q⟩
      show Value.bool _ = Value.bool _
      congr 1
      rw [passing_all, List.length_range]
      rw [← Array.length_toList]
      refine all_at z.cps.toList pr _ fun j c' hj => ?_
      rw [Array.getElem?_toList] at hj
      simp only [hj]
end
end L2
set_option Elab.async false
set_option linter.all false
set_option maxRecDepth 100000
namespace L2
open PySem PySem.Spec PyProof.Rows
/-- the rule for a def whose code object is known -/
theorem Fun.okC {P : Program} {w : World} {K : PySem.W.Frag} {mg : Str → Option Value} {base : Heap} {x qual : Str} {st : Stmt} {f c : Addr} {fd : FuncData} {N ps : List Str} {k : Nat} {sp : Sp} (F : Fun K x qual st f fd) (hc : fd.code = .ref c) (S : FnScope N ps (defScope st)) (len : ∀ vs H Q E, sp vs H Q E → vs.length = ps.length)
    (hbody : ∀ (A : Around) (outer : List Env) (s : Shared) (H : Hp) (vs : List V) (Q : VK) (E : XK), Room k (A.deeper (envOfC qual (defScope st) s.heap.objs.size f (.ref c))) → sp vs H Q E →
      ∃ t, PSs (cxOf CX0 P w K mg base N qual (defScope st) f (.ref c) A outer s H E).nox (defBody st) t ∧ t { nx := fun _ H' => Q .non H', rt := Q } (start N vs) H) : FnOk P w K mg base CX0 (k + 1) f fd ps sp := by
  obtain ⟨oc, od, kV, doc, pm, an, cdv, ct, osl, rfl, lk, hcd⟩ := F.ex
  have e : cdv = .ref c := hc
  subst e
  refine fn_of lk hcd S len fun A outer s H vs Q E hr hsp => ?_
  obtain ⟨t, h, q⟩ := hbody A outer s H vs Q E hr hsp
  exact ⟨t, h.nox, q⟩
def OnlyT (tabs : List Addr) (H : Hp) : Prop := ∀ b, H b = none ∨ (∃ o xs, H b = some (.frz o (.lst xs))) ∨ (b ∈ tabs ∧ H b = some (.ext (TabP b)))
def Tabs (tabs : List Addr) (H : Hp) : Prop := ∀ P ∈ tabs, H P = some (.ext (TabP P))
theorem Tabs.same {tabs : List Addr} {H H' : Hp} (t : Tabs tabs H) (s : Same H H') : Tabs tabs H' := fun P hP => s _ _ (t P hP)
theorem law_callT {P : Program} {w : World} {K : PySem.W.Frag} {mg mb : Str → Option Value} {CX : CXT} {k : Nat} {fa a : Addr} {fd : FuncData} {x : Str} {sp : Sp} {s₁ : Shared} {vs : List Value} {ns : List Int} {tabs : List Addr}
    (KX : K.In s₁.heap) (hns : s₁.heap.Ns mainGlobals mg) (hb : s₁.heap.Ns builtinsNs mb) (hbb : ∀ x : Str, x ≠ "__name__" → mb x = bootBuiltins x) (hlim : s₁.heap.NoLimit) (hg : s₁.gens = #[])
    (ha : s₁.heap.get? a = some { cls := .type "list", data := .seq vs.toArray }) (hi : IntsAre vs ns) (hl : ns.length ≤ sizeLine) (hr : Room k callerA)
    (hT : ∀ P ∈ tabs, s₁.heap.get? P = some (tabO #[]) ∧ isCodeTable s₁.heap P) (hKt : ∀ P ∈ tabs, K.lookup P = none) (hbm : BModB s₁.heap mg)
    (F : ∀ base : Heap, K.In base → base.Ns mainGlobals mg → BModB base mg → FnOk P w K mg base CX k fa fd [x] sp) (hbind : ∀ (s : Shared) (u : Value), BindsTo s fd ⟨[u], []⟩ [(x, u)])
    (hsp : ∀ H : Hp, OnlyT tabs H → Tabs tabs H → SqL K H a (ns.map V.int) → sp [.ref a] H (fun v H' => v = .bl true ∧ Tabs tabs H') fun _ _ _ => False)
    (hCX : ∀ H e s', CX [] H s₁ (fun _ _ _ => False) e s' → False) :
    codeAny (model P w) callerA (.call (.ref fa) ⟨[.ref a], []⟩) (fun r s' => r = .ok (.ret (.bool true)) ∧ OldK s₁.heap s'.heap ∧ s'.os = s₁.os ∧ AllBare s'.gens) s₁ := by
  have rv := vals_ints hi
  have lenV := hi.length
  have hat : a ∉ tabs := fun h => by
    have := (hT a h).1
    rw [ha] at this; cases this
  have core : ∀ H : Hp, OnlyT tabs H → Tabs tabs H → SqL K H a (ns.map V.int) → HOk P w H s₁.heap → (∀ b, H b ≠ none → b = a ∨ b ∈ tabs) → (H a ≠ none → K.lookup a = none) →
      codeAny (model P w) callerA (.call (.ref fa) ⟨[.ref a], []⟩) (fun r s' => r = .ok (.ret (.bool true)) ∧ OldK s₁.heap s'.heap ∧ s'.os = s₁.os ∧ AllBare s'.gens) s₁ := by
    intro H hO hTb hS hok hA hK
    have base_of : ∀ {b : Addr} {o : Obj}, s₁.heap.get? b = some o → H b = none → (hidT s₁.heap H).get? b = some o := fun e n => hidT_get e n
    have noA : ∀ {b : Addr} {o : Obj}, s₁.heap.get? b = some o → o.cls ≠ .none → o.cls ≠ .type "list" → H b = none := fun {b o} e c1 c2 => by
      cases q : H b with
      | none => rfl
      | some u =>
        rcases hA b (by rw [q]; simp) with e' | e'
        · subst e'
          rw [ha] at e; cases e
          exact absurd rfl c2
        · have := (hT b e').1
          rw [e] at this; cases this
          exact absurd rfl c1
    have noD : ∀ {b : Addr} {o : Obj} {es : Array DictEntry} {ep : Nat}, s₁.heap.get? b = some o → o.data = .dict es ep → H b = none := fun {b o es ep} e d => by
      cases q : H b with
      | none => rfl
      | some u =>
        rcases hA b (by rw [q]; simp) with e' | e'
        · subst e'
          rw [ha] at e; cases e
          have d' : Data.seq vs.toArray _ = Data.dict es ep := d
          cases d'
        · have := (hT b e').1
          rw [e] at this; cases this
          cases d
    have nsK : ∀ {b : Addr} {m : Str → Option Value}, s₁.heap.Ns b m → (hidT s₁.heap H).Ns b m := fun {b m} ⟨o, es, ep, e, d, r⟩ => ⟨o, es, ep, base_of e (noD e d), d, r⟩
    have hKb : K.In (hidT s₁.heap H) := fun b o e => base_of (KX b o e) (by
      cases q : H b with
      | none => rfl
      | some u =>
        rcases hA b (by rw [q]; simp) with e' | e'
        · subst e'
          rw [hK (by rw [q]; simp)] at e; cases e
        · rw [hKt b e'] at e; cases e)
    have hbmB : BModB (hidT s₁.heap H) mg := by
      obtain ⟨bm, ob, b1, b2, b3, b4, b5, b6⟩ := hbm.ex
      exact ⟨bm, ob, b1, b2, base_of b3 (noA b3 (by rw [b4]; simp) (by rw [b4]; simp)), b4, b5, b6⟩
    have hM : Mod K mg (hidT s₁.heap H) := ⟨hKb, nsK hns, ⟨mb, nsK hb, hbb⟩, let ⟨mc, h1, h2⟩ := hlim; ⟨mc, nsK h1, h2⟩⟩
    have e0 : Env0 P w K mg (hidT s₁.heap H) callerA [] s₁ H := ⟨rfl, hM, fun b o e => of_hidT e, Nat.le_of_eq (hidT_size _ _), trivial, fun b hb => absurd (show b ∈ ([] : List Addr) from hb) (by simp), hok, .of_eq hg⟩
    refine codeAny_mono ((F _ hKb (nsK hns) hbmB).run callerA [] s₁ H ⟨[.ref a], []⟩ [.ref a] [.ref a] _ _ hr e0 (hbind s₁ (.ref a)) (.cons rfl .nil) (hsp H hO hTb hS)) fun r s' h => ?_
    cases r with
    | error e => exact (hCX H e s' h).elim
    | ok fl =>
      cases fl with
      | next => exact False.elim h
      | brk => exact False.elim h
      | cont => exact False.elim h
      | ret u =>
        obtain ⟨v, H', os, bare, un, hok', r', q⟩ := h
        obtain ⟨q', qT⟩ := q
        subst q'
        obtain rfl : u = Value.bool true := r'
        have key : ∀ b o, s₁.heap.get? b = some o → s'.heap.get? b = some o ∨ (b ∈ tabs ∧ o = tabO #[] ∧ ∃ ps, s'.heap.get? b = some (tabO ps)) := fun b o e => by
          cases q : H b with
          | none => exact .inl (un.keep b o e q (by intro z; exact absurd (show b ∈ ([] : List Addr) from z) (by simp)) (by simp))
          | some u =>
            rcases hO b with z | ⟨ob, xs, z⟩ | ⟨z1, z2⟩
            · rw [q] at z; cases z
            · have z2 := un.frzs b ob _ z
              obtain ⟨e1, _⟩ := hok b _ z
              obtain ⟨e2, _⟩ := hok' b _ z2
              rw [e] at e1; cases e1
              exact .inl e2
            · obtain ⟨⟨ps, e3, _⟩, _⟩ := hok' b _ (qT b z1)
              have := (hT b z1).1
              rw [e] at this
              exact .inr ⟨z1, Option.some.inj this, ps, e3⟩
        refine ⟨rfl, ⟨fun b o e => ?_, fun b o e => ?_⟩, os, bare⟩
        · rcases key b o e with z | ⟨z1, rfl, ps, z⟩
          · exact .inl z
          · exact .inr (.inl ⟨(hT b z1).2, rfl, #[], ps, rfl, by simpa using z⟩)
        · rcases key b o e with z | ⟨z1, rfl, ps, z⟩
          · exact ⟨_, z⟩
          · exact ⟨_, z⟩
  have okT : ∀ (H : Hp) (b : Addr), b ∈ tabs → ObjOk P w H s₁.heap b (.ext (TabP b)) := fun H b hb => TabP.ok ⟨#[], (hT b hb).1, trivial⟩
  cases hk : K.lookup a with
  | some o =>
    have e := KX a o hk
    rw [ha] at e
    cases e
    refine core (fun b => if b ∈ tabs then some (.ext (TabP b)) else none) (fun b => ?_) (fun b hb => if_pos hb) (.inr ⟨_, vs.toArray, _, hk, rfl, rfl, rfl, by rw [List.size_toArray, lenV]; exact hl, by simpa using rv⟩) (fun b u z => ?_) (fun b z => ?_) fun z => absurd (if_neg hat) z
    · by_cases hb : b ∈ tabs
      · exact .inr (.inr ⟨hb, if_pos hb⟩)
      · exact .inl (if_neg hb)
    · by_cases hb : b ∈ tabs
      · have z' := (if_pos hb).symm.trans z
        cases z'
        exact okT _ b hb
      · have z' := (if_neg hb).symm.trans z
        cases z'
    · by_cases hb : b ∈ tabs
      · exact .inr hb
      · exact absurd (if_neg hb) z
  | none =>
    refine core (fun b => if b ∈ tabs then some (.ext (TabP b)) else if b = a then some (.frz { cls := .type "list", data := .seq vs.toArray } (.lst (ns.map V.int))) else none) (fun b => ?_) (fun b hb => if_pos hb)
      (.inl (.inr ⟨{ cls := .type "list", data := .seq vs.toArray }, (if_neg hat).trans (if_pos rfl)⟩)) (fun b u z => ?_) (fun b z => ?_) fun _ => hk
    · by_cases hb : b ∈ tabs
      · exact .inr (.inr ⟨hb, if_pos hb⟩)
      · by_cases hb2 : b = a
        · exact .inr (.inl ⟨_, _, (if_neg hb).trans (if_pos hb2)⟩)
        · exact .inl ((if_neg hb).trans (if_neg hb2))
    · by_cases hb : b ∈ tabs
      · have z' := (if_pos hb).symm.trans z
        cases z'
        exact okT _ b hb
      · by_cases hb2 : b = a
        · have z' := ((if_neg hb).trans (if_pos hb2)).symm.trans z
          cases z'
          subst hb2
          exact ⟨ha, by rw [List.length_map]; exact hl, vs, _, rv, ha⟩
        · have z' := ((if_neg hb).trans (if_neg hb2)).symm.trans z
          cases z'
    · by_cases hb : b ∈ tabs
      · exact .inr hb
      · by_cases hb2 : b = a
        · exact .inl hb2
        · exact absurd ((if_neg hb).trans (if_neg hb2)) z
def Makers (q : Program) (K : PySem.W.Frag) : List (Str × Addr) → Prop
  | [] => True
  | (x, P) :: r => (∃ d f c od sl fd oc, (recsOf q).find? (fun e => e.name == x) = some d ∧ PySem.W.nsIn K mainGlobals x = some (some (.ref f)) ∧ K.lookup f = some ⟨oc, od, .func fd, sl⟩ ∧ fd.code = .ref c ∧ CodeK K c P ∧ K.lookup P = none) ∧ Makers q K r
theorem Makers.of {q : Program} {K : PySem.W.Frag} {loose : List Str} {mean : ExcName → Option Value} {mg mb : Str → Option Value} {h : Heap} (T : Top q loose mean mg mb h) (X : K.In h) : ∀ {l : List (Str × Addr)}, Makers q K l →
    ∀ P ∈ l.map (·.2), h.get? P = some (tabO #[]) ∧ isCodeTable h P ∧ K.lookup P = none
  | [], _, P, hP => by cases hP
  | (x, P0) :: r, ⟨⟨d, f, c, od, sl, fd, oc, hd, hn, hf, hc, ck, hk⟩, hr⟩, P, hP => by
    rcases List.mem_cons.mp hP with rfl | hP
    · obtain ⟨a, o, fd', c', P', h1, h2, h3, h4, h5, h6⟩ := T.tab d (List.mem_of_find?_eq_some hd)
      have hx : d.name = x := beq_iff_eq.mp (List.find?_some (p := fun e : DefRec => e.name == x) hd)
      rw [hx, PySem.W.mg_of X T.g hn] at h1
      cases h1
      rw [X _ _ hf] at h2
      cases h2
      cases h3
      rw [hc] at h4
      cases h4
      obtain ⟨o2, vs, file, tf, flags, tg, inF, text, tt, e1, e2, e3, e4, f3, f4, f5, f6, f7, f11⟩ := ck.ex
      obtain ⟨⟨o3, vs3, g1, g2, g3, g4⟩, g5⟩ := id h6
      rw [X _ _ e1] at g1
      cases g1
      rw [e3] at g3
      cases g3
      rw [e4] at g4
      cases g4
      exact ⟨g5, h6.isCodeTable, hk⟩
    · exact Makers.of T X hr P hP
theorem walk_ofT {l : PySem.W.OpenLaw} {n k : Nat} {q : Program} {loose : List Str} {XP : (Str → Option Value) → Heap → Prop} {YP : World → Heap → Prop} {d : DefRec} {K : Params → PySem.W.Frag} {CX : World → CXT} {sp : World → Sp} {x : Str} (mks : List (Str × Addr))
    (hn : l.most = some n) (hn2 : n ≤ sizeLine) (hdf : d.params.defaults = []) (hr : Room k callerA)
    (hY : ∀ (w : World) (h : Heap), YP w h → (K w.params).In h)
    (hmk : ∀ w : World, Makers q (K w.params) mks)
    (F : ∀ (w : World) (mg : Str → Option Value) (fa : Addr) (h : Heap), (K w.params).In h → h.Ns mainGlobals mg → mg d.name = some (.ref fa) →
      ∃ fd : FuncData, (∀ (s : Shared) (u : Value), BindsTo s fd ⟨[u], []⟩ [(x, u)]) ∧
        ∀ base : Heap, (K w.params).In base → base.Ns mainGlobals mg → BModB base mg → FnOk l.prog w (K w.params) mg base (CX w) k fa fd [x] (sp w))
    (hsp : ∀ (w : World) (H : Hp) (a : Addr) (ns : List Int), ns.length ≤ n → OnlyT (mks.map (·.2)) H → Tabs (mks.map (·.2)) H → SqL (K w.params) H a (ns.map V.int) → sp w [.ref a] H (fun v H' => v = .bl true ∧ Tabs (mks.map (·.2)) H') fun _ _ _ => False)
    (hCX : ∀ (w : World) (H : Hp) (s : Shared) (e : Value) (s' : Shared), CX w [] H s (fun _ _ _ => False) e s' → False) :
    PySem.W.WalkO q loose XP YP l.row.toRowW d [] (fun f vs => PySem.call f vs) := by
  refine Att.attach_call hn hdf fun w s₀ s₁ mg mb fa o pm cd doc a vs ns G Y ho hd hcd hmg hobj hints hlen hg => ?_
  have KX := hY w _ Y
  obtain ⟨fd, hb, hF⟩ := F w mg fa _ KX G.T.g hmg
  have hM := Makers.of G.T KX (hmk w)
  exact law_callT KX G.T.g G.T.b G.T.builtins G.T.nolimit hg hobj hints (Nat.le_trans hlen hn2) hr (fun P hP => ⟨(hM P hP).1, (hM P hP).2.1⟩) (fun P hP => (hM P hP).2.2) ⟨G.T.bmain⟩ hF hb (fun H hO hT hS => hsp w H a ns hlen hO hT hS) fun H e s' => hCX w H s₁ e s'
def spLawT (K : PySem.W.Frag) (tabs : List Addr) : Sp := fun vs H Q _ => ∃ (a : Addr) (ns : List Int), vs = [.ref a] ∧ SqL K H a (ns.map V.int) ∧ ns.length ≤ 63 ∧ OnlyT tabs H ∧ Tabs tabs H ∧ ∀ H', Tabs tabs H' → Q (.bl true) H'
theorem Scr.ofT {K : PySem.W.Frag} {tabs : List Addr} {H : Hp} {a : Addr} {xs : List V} (h : SqL K H a xs) (O : OnlyT tabs H) : Scr K H a xs := by
  rcases h with (h | ⟨o, h⟩) | h
  · rcases O a with z | ⟨o, ys, z⟩ | ⟨_, z⟩
    · rw [z] at h; cases h
    · rw [z] at h; cases h
    · rw [z] at h; cases h
  · exact .inl ⟨o, h⟩
  · exact .inr h
end L2
set_option Elab.async false
set_option linter.all false
set_option maxRecDepth 100000
namespace L2
open PySem PySem.Spec PyProof.Rows
theorem el_between {prog : Program} {w : World} {D U : Nat} {scope : Scope} {cl : List (Str × Addr)} {x lo hi : Str} {env : Env} {j1 j2 : Nat} {p1 p2 p3 pos : Pos} (hx : scope.names.lookup x = some .local) (hkind : scope.kind = .function) (hd : (x == ("__debug__" : Str)) = false := by decide) :
    ElS prog w D U scope cl x (.Compare (.Constant (.str lo) j1 p1) [.LtE, .LtE] [.Name x p2, .Constant (.str hi) j2 p3] pos) env (fun c => !decide ([c] < lo.cps.toList) && !decide (hi.cps.toList < [c])) := by
  intro A' E' C code c u s₂ m₂ hA _ _ hn hm
  have kp : ∀ tk : Nat, Keeps s₂ { s₂ with toks := tk } := fun tk => ⟨s₂.heap, tk, rfl, fun _ _ e => e⟩
  refine Compare_chain (Calls.Constant_str ?_) (by with_unfolding_all rfl)
  refine chain_link (wpAny_Name (wpAny_loadName_local (m := m₂) hkind hx hn hm ?_) hd)
  refine PySem.P.le_str ?_
  refine wpAny_truthy_bool ?_
  cases hb : (!decide ((Str.mk #[c]).cps.toList < lo.cps.toList)) with
  | false =>
    refine ite_ff ⟨?_, kp _⟩
    show Value.bool false = Value.bool ((!decide ((Str.mk #[c]).cps.toList < lo.cps.toList)) && _)
    rw [hb]; rfl
  | true =>
    refine ite_tt (chain_last (Calls.Constant_str (PySem.P.le_str ⟨?_, kp _⟩)))
    show Value.bool _ = Value.bool ((!decide ((Str.mk #[c]).cps.toList < lo.cps.toList)) && _)
    rw [hb, Bool.true_and]
def rowB (z : Str) : Bool := z.cps.toList.all fun c => !decide ([c] < (Str.ofString "a").cps.toList) && !decide ((Str.ofString "z").cps.toList < [c])
theorem lt_one (a b : Nat) : ([a] < [b]) ↔ a < b := by
  constructor
  · intro h
    cases h with
    | rel h => exact h
    | cons h => exact absurd h (by simp)
  · intro h; exact List.Lex.rel h
theorem rowB_iff (z : Str) : rowB z = true ↔ IsRow z := by
  unfold rowB IsRow
  rw [List.all_eq_true]
  have ea : (Str.ofString "a").cps.toList = [97] := by decide +kernel
  have ez : (Str.ofString "z").cps.toList = [122] := by decide +kernel
  rw [ea, ez]
  constructor
  · intro h c hc
    have := h c hc
    simp only [Bool.and_eq_true, Bool.not_eq_true', decide_eq_false_iff_not, lt_one] at this
    omega
  · intro h c hc
    have := h c hc
    simp only [Bool.and_eq_true, Bool.not_eq_true', decide_eq_false_iff_not, lt_one]
    omega
theorem mk_codeK {K : PySem.W.Frag} {c P : Addr} {oc : Value} {od : Option Addr} {vs : Array Value} {sl : Array (Option Value)} {file : Str} {tf : Tok} {flags : Int} {tg : Tok} {inF : Bool} {text : Int} {tt : Tok}
    (l : K.lookup c = some ⟨oc, od, .fields vs, sl⟩) (h1 : oc = .type "code") (h2 : vs[11]? = some (.ref P)) (h3 : vs.getD 11 .none = .ref P) (h4 : vs.getD 18 .none = .str file tf) (h5 : vs.getD 7 .none = .int flags tg) (h6 : vs.getD 9 .none = .bool inF) (h7 : vs.getD 10 .none = .int text tt) (hne : c ≠ P) : CodeK K c P :=
  ⟨⟨_, vs, file, tf, flags, tg, inF, text, tt, l, h1, rfl, h2, h3, h4, h5, h6, h7, hne⟩⟩
theorem mk_makers {q : Program} {K : PySem.W.Frag} {x : Str} {P : Addr} {r : List (Str × Addr)} {d : DefRec} {f c : Addr} {od : Option Addr} {sl : Array (Option Value)} {fd : FuncData} {oc : Value} (h1 : (recsOf q).find? (fun e => e.name == x) = some d)
    (h2 : PySem.W.nsIn K mainGlobals x = some (some (.ref f))) (h3 : K.lookup f = some ⟨oc, od, .func fd, sl⟩) (h4 : fd.code = .ref c) (h5 : CodeK K c P) (h6 : K.lookup P = none) (h7 : Makers q K r) : Makers q K ((x, P) :: r) :=
  ⟨⟨d, f, c, od, sl, fd, oc, h1, h2, h3, h4, h5, h6⟩, h7⟩
def spIsRow (K : PySem.W.Frag) (P : Addr) : Sp := fun vs H Q _ => ∃ x, vs = [x] ∧ ((∃ z : Str, x = .str z ∧ H P = some (.ext (TabP P)) ∧ Q (.bl (rowB z)) H) ∨ (IsI K H x "str" false ∧ Q (.bl false) H))
end L2
set_option Elab.async false
set_option linter.all false
set_option maxRecDepth 100000
namespace L2
open PySem PySem.Spec PyProof.Rows
open Sem (wp)
theorem lk_VE_class : typeLookup (.type "ValueError") "__class__" = pure (some (.builtin "object.__class__")) := by rw [typeLookup_type, builtinLookup_eq_fast]; kernel_rfl
theorem sub_VE_class_owner : isSubtype (.type "ValueError") (.type (".".intercalate ("object.__class__".cutAt '.').dropLast)) = pure true := by
  rw [F.owner_object_class, isSubtype_type]; kernel_rfl
section
variable {prog : Program} {w : World} {A : Around} {E : Value → Shared → Prop} {h : Heap} {g : Array GenState} {d : Drawn} {t : Nat} {os : OsState} {a : Addr} {o : Obj}
theorem class_get_VE {R : Result → Shared → Prop} (at_ : h.get? a = some o) (cl_ : o.cls = .type "ValueError") (wish : R (.ok (.ret (.type "ValueError"))) ⟨h, g, d, t, os⟩) :
    codeAny (model prog w) A (.call (.builtin "getset_descriptor.__get__") ⟨[.builtin "object.__class__", .ref a, .type "ValueError"], []⟩) R ⟨h, g, d, t, os⟩ := by
  have ty_ : (⟨h, g, d, t, os⟩ : Shared).TypeIs (.ref a) "ValueError" := ⟨_, at_, cl_⟩
  have ty5 : (⟨h, g, d, t, os⟩ : Shared).TypeIs (.builtin "object.__class__") "getset_descriptor" := F.typeOf_object_class
  have g8 := sub_VE_class_owner
  refine codeAny_call_builtin F.slot_gs_get.plain F.entry_gs_get (F.slot_gs_get.check _ _ _ _ _ _ _ _ ty5 (F.args_gs_get _ _ _) ?_)
  (repeat (any_goals (first | assumption | wp_step)))
  refine ⟨Code.quiet_builtin _ (by decide +kernel), codeAny_builtin F.entry_object_class ?_⟩
  (repeat (any_goals (first | assumption | wp_step)))
theorem class_entry_VE {tok_ : Tok} {Q : Fin → Shared → Prop} (at_ : h.get? a = some o) (cl_ : o.cls = .type "ValueError") (wish : Q (.done (.ret (.type "ValueError"))) ⟨h, g, d, t, os⟩) :
    wpAny (model prog w) A (Builtin.«object.__getattribute__» ⟨[.ref a, .str "__class__" tok_], []⟩) Q E ⟨h, g, d, t, os⟩ := by
  have ty_ : (⟨h, g, d, t, os⟩ : Shared).TypeIs (.ref a) "ValueError" := ⟨_, at_, cl_⟩
  have ty5 : (⟨h, g, d, t, os⟩ : Shared).TypeIs (.builtin "object.__class__") "getset_descriptor" := F.typeOf_object_class
  have g4 := lk_VE_class
  have g5 := F.typeOf_object_class
  have g6 := F.slot_gs_get.lookup
  have g7 := F.slot_gs_set.lookup
  (repeat (any_goals (first | assumption | wp_step)))
  refine class_get_VE at_ cl_ ?_
  (repeat (any_goals (first | assumption | wp_step)))
theorem class_call_VE {tok_ : Tok} {R : Result → Shared → Prop} (at_ : h.get? a = some o) (cl_ : o.cls = .type "ValueError") (wish : R (.ok (.ret (.type "ValueError"))) ⟨h, g, d, t, os⟩) :
    codeAny (model prog w) A (.call (.builtin "BaseException.__getattribute__") ⟨[.ref a, .str "__class__" tok_], []⟩) R ⟨h, g, d, t, os⟩ :=
  codeAny_call_builtin F.excAttr_ValueError.ga.plain F.entry_bexc_ga (F.excAttr_ValueError.ga.check _ _ _ _ _ _ _ _ (show (⟨h, g, d, t, os⟩ : Shared).TypeIs (.ref a) "ValueError" from ⟨_, at_, cl_⟩) (F.args_bexc_ga _ _) (class_entry_VE at_ cl_ wish))
theorem class_by_VE {tok_ : Tok} {Q : Value → Shared → Prop} (at_ : h.get? a = some o) (cl_ : o.cls = .type "ValueError") (wish : Q (.type "ValueError") ⟨h, g, d, t, os⟩) : wpAny (model prog w) A (getAttrBy (.ref a) (.str "__class__" tok_) false) Q E ⟨h, g, d, t, os⟩ := by
  have ty_ : (⟨h, g, d, t, os⟩ : Shared).TypeIs (.ref a) "ValueError" := ⟨_, at_, cl_⟩
  have g2 := F.excAttr_ValueError.ga.lookup
  have g3 := F.excAttr_ValueError.ga.bind (.ref a)
  (repeat (any_goals (first | assumption | wp_step)))
  refine class_call_VE at_ cl_ ?_
  (repeat (any_goals (first | assumption | wp_step)))
theorem class_attr_VE {Q : Option Value → Shared → Prop} (at_ : h.get? a = some o) (cl_ : o.cls = .type "ValueError") (wish : Q (some (.type "ValueError")) ⟨h, g, d, t + 1, os⟩) : wpAny (model prog w) A (getAttr? (.ref a) "__class__") Q E ⟨h, g, d, t, os⟩ := by
  unfold getAttr? getAttrBy?
  repeat (any_goals (first | assumption | with_reducible apply class_by_VE at_ cl_ | wp_step))
theorem isinstance_nested_false_VE {T : String} {dp_ : Int} {tok_ : Tok} {Q : Fin → Shared → Prop} (at_ : h.get? a = some o) (cl_ : o.cls = .type "ValueError") (nee : (Value.type "ValueError" == Value.type T) = false) (tyT : typeOf (.type T) = pure (.type "type"))
    (subT : isSubtype (.type "ValueError") (.type T) = pure false) (wish : Q (.done (.ret (.bool false))) ⟨h, g, d, t + 1, os⟩) :
    wpAny (model prog w) A (Builtin.«isinstance.nested» ⟨[.ref a, .type T, .int dp_ tok_], []⟩) Q E ⟨h, g, d, t, os⟩ := by
  have ty_ : (⟨h, g, d, t, os⟩ : Shared).TypeIs (.ref a) "ValueError" := ⟨_, at_, cl_⟩
  repeat (any_goals (first | assumption | with_reducible apply class_attr_VE at_ cl_ | wp_step))
end
theorem isi_exc {prog : Program} {w : World} {A : Around} {E : Value → Shared → Prop} {s : Shared} {Q : Value → Shared → Prop} {a : Addr} {o : Obj} (hx : s.heap.get? a = some o) (hc : o.cls = .type "ValueError") (h : ∀ tk, Q (.bool false) { s with toks := tk }) :
    wpAny (model prog w) A (call (.builtin "isinstance") [.ref a, .type "str"]) Q E s := by
  refine call_isinstance (S := fun _ R s => (∃ o, s.heap.get? a = some o ∧ o.cls = .type "ValueError") ∧ R (.ok (.ret (.bool false))) { s with toks := s.toks + 1 }) (fun _ _ _ _ s hs => ?_) ⟨⟨o, hx, hc⟩, h _⟩
  obtain ⟨h, g, d, t, os⟩ := s
  obtain ⟨⟨o, hx, hc⟩, hq⟩ := hs
  exact isinstance_outer (isinstance_nested_false_VE hx hc (by decide +kernel) F.isi_meta_str (by rw [isSubtype_type]; kernel_rfl) hq)
end L2
set_option Elab.async false
set_option linter.all false
set_option maxRecDepth 100000
namespace L2
open PySem PySem.Spec PyProof.Rows
section
variable {X : Cx}
abbrev sgs (cs : List Nat) : List V := cs.map fun c => V.str (sg c)
theorem vals_signs {z : Str} {acc : Array Value} (h : ItemsOf (SignAt z) acc z.cps.size) : Vals (sgs z.cps.toList) acc.toList := by
  have key : ∀ (cs : List Nat) (us : List Value), us.length = cs.length → (∀ (j : Nat) (v : Value), us[j]? = some v → ∃ c u, cs[j]? = some c ∧ v = Value.str ⟨#[c]⟩ u) → Vals (sgs cs) us := by
    intro cs
    induction cs with
    | nil => intro us hl _; cases us with
      | nil => exact .nil
      | cons a b => cases hl
    | cons c cs ih =>
      intro us hl hi
      cases us with
      | nil => cases hl
      | cons u us =>
        obtain ⟨c', t, e1, e2⟩ := hi 0 u rfl
        have e3 : c = c' := by simpa using e1
        subst e3
        refine .cons ⟨t, e2⟩ (ih us (by simpa using hl) fun j v hj => ?_)
        have := hi (j + 1) v (by simpa using hj)
        simpa using this
  refine key _ _ (by rw [Array.length_toList, Array.length_toList]; exact h.1) fun j v hj => ?_
  obtain ⟨c, u, e1, e2⟩ := h.2 j v (by rw [← Array.getElem?_toList]; exact hj)
  exact ⟨c, u, by rw [Array.getElem?_toList]; exact e1, e2⟩
theorem cr_listS (hc : X.calm = true) : CallR X (.type "list") (fun xs H Q => ∃ z : Str, xs = [.str z] ∧ z.length ≤ sizeLine ∧ ∀ p, H p = none → Q (.ref p) (upd H p (.lst (sgs z.cps.toList)))) := by
  intro pins s σ H xs us Q I rs h
  obtain ⟨z, rfl, hz, q⟩ := h
  obtain ⟨u, rfl, t, rfl⟩ := vals1 rs
  refine call_list_str (I.ok.hd hc) z t (fun h' tk acc c' hk hS hacc => ?_) hz
  refine ⟨.ref s.heap.objs.size, _, I.laid (t' := tk) (o := .lst (sgs z.cps.toList)) hk (Nat.le_refl _) ?_, rfl, q _ (I.hok.fresh (Nat.le_refl _))⟩
  exact ⟨by rw [List.length_map, ← len_cps]; exact hz, acc.toList, c', vals_signs hacc, by simpa using hS⟩
def ExcP (T : String) (a : Addr) : Heap → Prop := fun h => ∃ o, h.get? a = some o ∧ o.cls = .type T
theorem ExcP.ok {Pg : Program} {w : World} {H : Hp} {h : Heap} {T : String} {a : Addr} (t : ExcP T a h) : ObjOk Pg w H h a (.ext (ExcP T a)) :=
  ⟨t, let ⟨o, e, _⟩ := t; ⟨_, e⟩, fun h1 h2 ⟨o, e, r⟩ k => ⟨o, k _ e, r⟩⟩
theorem ObjOk.ex {P : Program} {w : World} {H : Hp} {h : Heap} {a : Addr} {o : HO} (x : ObjOk P w H h a o) : ∃ u, h.get? a = some u := by
  cases o with
  | lst xs => obtain ⟨_, _, _, _, e⟩ := x; exact ⟨_, e⟩
  | tup xs => obtain ⟨_, _, _, ob, e, _⟩ := x; exact ⟨_, e⟩
  | dK kvs => obtain ⟨_, _, _, _, o, _, _, e, _⟩ := x; exact ⟨_, e⟩
  | dT kvs => obtain ⟨_, _, _, _, o, _, _, e, _⟩ := x; exact ⟨_, e⟩
  | set S n => obtain ⟨o, _, _, _, e, _⟩ := x; exact ⟨_, e⟩
  | ins C dx fs => obtain ⟨_, _, _, e, _⟩ := x; exact ⟨_, e⟩
  | own y => obtain ⟨_, e⟩ := x; exact ⟨_, e⟩
  | xd fs => obtain ⟨_, ⟨_, _, _, e, _⟩, _⟩ := x; exact ⟨_, e⟩
  | rng lo hi => obtain ⟨_, _, _, e⟩ := x; exact ⟨_, e⟩
  | frz ob u => obtain ⟨e, _⟩ := x; exact ⟨_, e⟩
  | tbl ps => exact ⟨_, (show h.get? a = some _ from x)⟩
  | met f y => exact ⟨_, (show h.get? a = some _ from x)⟩
  | ext φ => obtain ⟨_, e, _⟩ := x; exact e
/-- a new thing at any free address -/
theorem Inv.laidAny {pins : List (Addr × Obj)} {σ : St} {H : Hp} {s : Shared} {h' : Heap} {a : Addr} {o : HO} {t' : Nat} (I : Inv X pins σ H s) (k : ∀ b u, s.heap.get? b = some u → h'.get? b = some u) (hn : s.heap.get? a = none) (new : ObjOk X.prog X.w (upd H a o) h' a o) :
    H a = none ∧ Inv X pins σ (upd H a o) { s with heap := h', toks := t' } := by
  have hHa : H a = none := by
    cases e : H a with
    | none => rfl
    | some u => obtain ⟨v, q⟩ := (I.hok a u e).ex; rw [hn] at q; cases q
  refine ⟨hHa, ?_⟩
  have ne : ∀ b u, s.heap.get? b = some u → b ≠ a := fun b u e z => by rw [z, hn] at e; cases e
  have nH : ∀ b u, H b = some u → b ≠ a := fun b u e => ne_of_none e hHa
  refine I.step (g' := s.gens) (d' := s.drawn) (ch := []) (fun _ z => nomatch z) (fun b u _ _ _ e _ => k b u e) (fun b u _ _ _ e _ => ⟨u.slots, k b u e⟩) (fun b u _ e n => by rw [upd_ne (ne b u e)]; exact n) (fun b u _ e => ⟨u, k b u e⟩)
    (fun b xs e => by rw [upd_ne (nH b _ e)]; exact e) (fun b ob u e => by rw [upd_ne (nH b _ e)]; exact e) (fun b ps e => ⟨#[], by rw [upd_ne (nH b _ e), e]; simp⟩) (fun m hm => ?_) (fun b u e => ?_) I.bare
  · obtain ⟨ob, es, ep, ho, r⟩ := hm
    exact ⟨ob, es, ep, k _ _ ho, r⟩
  · by_cases hb : b = a
    · subst hb
      rw [upd_same] at e
      cases e
      exact new
    · rw [upd_ne hb] at e
      exact (I.hok b u e).stay (fun c v _ q => k c v q) (fun c q => by rw [upd_ne (nH c _ q)]; exact q) fun c xs q => by rw [upd_ne (nH c _ q)]; exact q
theorem cr_valueError : CallR X (.type "ValueError") (fun xs H Q => ∃ z : Str, xs = [.str z] ∧ ∀ p, H p = none → Q (.ref p) (upd H p (.ext (ExcP "ValueError" p)))) := by
  intro pins s σ H xs us Q I rs h
  obtain ⟨z, rfl, q⟩ := h
  obtain ⟨u, rfl, t, rfl⟩ := vals1 rs
  refine call_exc excClass_ValueError (fun h' e hN => ?_) (by show 1 ≤ sizeLine; decide)
  obtain ⟨ob, t', e1, e2, _⟩ := hN.there
  obtain ⟨n, I1⟩ := I.laidAny (t' := s.toks) (o := .ext (ExcP "ValueError" e)) hN.keeps hN.new (ExcP.ok ⟨ob, e1, e2⟩)
  exact ⟨.ref e, _, I1, rfl, q _ n⟩
theorem cr_isiE : CallR X (.builtin "isinstance") (fun xs H Q => ∃ a, xs = [.ref a, .ty "str"] ∧ H a = some (.ext (ExcP "ValueError" a)) ∧ Q (.bl false) H) := by
  intro pins s σ H xs us Q I r h
  obtain ⟨a, rfl, ha, q⟩ := h
  obtain ⟨u, w', rfl, r1, r2⟩ := vals2 r
  cases r2
  cases r1
  obtain ⟨⟨o, e1, e2⟩, _⟩ := I.hok a _ ha
  exact isi_exc e1 e2 fun tk => ⟨.bl false, H, I.tok _, rfl, q⟩
end
end L2
set_option Elab.async false
set_option linter.all false
set_option maxRecDepth 100000
namespace L2
open PySem PySem.Spec PyProof.Rows
abbrev kvsOf (ps : List (Str × Int)) : List (Key × V) := ps.map fun p => (Sum.inr p.1, V.int p.2)
abbrev datOf (ps : List (Str × Int)) : List (PyData × PyData) := ps.map fun p => (PyData.str p.1, PyData.int p.2)
def rReprD : List V → Hp → VK → Prop := fun xs H Q => ∃ (a : Addr) (ps : List (Str × Int)), xs = [.ref a] ∧ H a = some (.dK (kvsOf ps)) ∧ (PyData.dict (datOf ps)).showable = true ∧ (PyData.dict (datOf ps)).shown.length ≤ sizeLine ∧ (PyData.dict (datOf ps)).depth ≤ 64 ∧
  Q (.str (PyData.dict (datOf ps)).shown) H
end L2
set_option Elab.async false
set_option linter.all false
set_option maxRecDepth 100000
namespace L2
open PySem PySem.Spec PyProof.Rows
theorem slicePick_rev (its : List Value) : slicePick its.toArray none none (some (-1)) = its.reverse.toArray := by
  unfold slicePick
  have e1 : (sliceBounds none none (some (-1)) its.toArray.size).1 = (its.length : Int) - 1 := rfl
  have e2 : (sliceBounds none none (some (-1)) its.toArray.size).2.1 = -1 := rfl
  have e3 : (sliceBounds none none (some (-1)) its.toArray.size).2.2 = -1 := rfl
  rw [e1, e2, e3]
  congr 1
  unfold sliceRange
  have e0 : ¬ ((-1 : Int) > 0) := by decide
  simp only [if_neg e0]
  have e4 : (if (its.length : Int) - 1 > -1 then ((its.length : Int) - 1 - -1 - -1 - 1) / (- -1) else 0) = (its.length : Int) := by
    by_cases h : (its.length : Int) - 1 > -1
    · rw [if_pos h, show (- -1 : Int) = 1 from rfl, Int.ediv_one]; omega
    · rw [if_neg h]; omega
  rw [e4, Int.toNat_natCast, List.filterMap_map]
  have e : ∀ k ∈ List.range its.length, ((fun x => its.toArray[x]?) ∘ fun k : Nat => ((its.length : Int) - 1 + -1 * (k : Int)).toNat) k = some (its.reverse.getD k .none) := by
    intro k hk
    have hk' := List.mem_range.mp hk
    show its.toArray[((its.length : Int) - 1 + -1 * (k : Int)).toNat]? = _
    have e5 : ((its.length : Int) - 1 + -1 * (k : Int)).toNat = its.length - 1 - k := by omega
    rw [e5, List.getElem?_toArray, List.getD_eq_getElem?_getD, List.getElem?_reverse hk']
    rw [List.getElem?_eq_getElem (by omega)]
    rfl
  rw [fm_congr e, List.filterMap_eq_map']
  refine List.ext_getElem (by simp) fun i h1 h2 => ?_
  simp at h1 h2 ⊢
  rw [List.getElem?_eq_getElem (by simpa using h2)]
  simp
theorem Vals.rev {xs : List V} {us : List Value} (r : Vals xs us) : Vals xs.reverse us.reverse := by
  induction r with
  | nil => exact .nil
  | cons a t ih => rw [List.reverse_cons, List.reverse_cons]; exact ih.append (.cons a .nil)
def tRevL (K : PySem.W.Frag) (te : TE) : TE := fun σ H Q => te σ H fun x H1 => ∃ a xs, x = .ref a ∧ SqL K H1 a xs ∧ ∀ p, H1 p = none → Q (.ref p) (upd H1 p (.lst xs.reverse))
section
variable {X : Cx} {e : Expr} {te : TE}
theorem pe_revL {k : Nat} {p1 p2 p3 pos : Pos} (he : PE X e te) : PE X (.Subscript e (.Slice none none (some (.UnaryOp .USub (.Constant (.int 1) k p1) p3)) p2) pos) (tRevL X.K te) := by
  intro pins s σ H Q I h
  refine Subscript_ (thn (he pins s σ H _ I h) fun v s1 ⟨x, H1, I1, r1, q1⟩ => ?_)
  obtain ⟨a, xs, rfl, hx, q⟩ := q1
  cases r1
  refine wpAny_Slice ?_
  rw [evalPart_none]
  refine wpAny_pure (wpAny_pure ?_)
  rw [evalPart_some]
  refine thn (pe_un un_neg pe_int pins s1 σ H1 (fun x H' => x = .int (-1) ∧ H' = H1) I1 ⟨1, rfl, rfl, rfl⟩) fun u s2 ⟨x2, H2, I2, r2, e2, e3⟩ => ?_
  subst e2 e3
  obtain ⟨t2, rfl⟩ := r2
  have I4 : Inv X pins σ H2 { s2 with heap := s2.heap.push { cls := .type "slice", data := .fields #[.none, .none, .int (-1) t2] } } := I2.kept (t' := s2.toks) fun b ob q => Heap.get?_push_of_some _ q
  obtain ⟨its, r, ht, hz⟩ := I4.list hx
  have hlen := r.length
  show wpAny (model X.prog X.w) X.A (subscriptTail e _ (.ref a) (.ref s2.heap.objs.size)) (EP X pins σ Q) X.xe _
  refine tail_any (ops := [.ref a, .ref s2.heap.objs.size]) ht.isList.typeIs slot_list_getitem.lookup ?_ (by with_unfolding_all rfl)
  refine wpAny_getItem_list_slice ht.isList ⟨_, Heap.get?_push_size _ rfl, rfl, rfl⟩ .none .none (.int (-1) t2) (by simp) ?_ (by rw [List.size_toArray]; omega)
  rw [slicePick_rev]
  refine ⟨.ref _, _, I4.laid (t' := s2.toks) (o := .lst xs.reverse) (fun b ob q => Heap.get?_push_of_some _ q) (Nat.le_refl _) ?_, rfl, q _ (I4.hok.fresh (Nat.le_refl _))⟩
  exact ⟨by rw [List.length_reverse]; exact hz, _, 0, r.rev, Heap.get?_push_size _ rfl⟩
def rRepr (K : PySem.W.Frag) : List V → Hp → VK → Prop := fun xs H Q => ∃ x d, xs = [x] ∧ Dp K H x d ∧ d.showable = true ∧ d.hasDict = false ∧ d.depth ≤ 64 ∧ d.shown.length ≤ sizeLine ∧ Q (.str d.shown) H
end
/-- a list of small numbers is shown -/
theorem nodict_ints : ∀ ns : List Int, PyData.hasDictAll (ns.map PyData.int) = false
  | [] => rfl
  | n :: ns => nodict_ints ns
theorem show_ints : ∀ ns : List Int, (∀ n ∈ ns, n.natAbs < 1000000) → PyData.showableAll (ns.map PyData.int) = true
  | [], _ => rfl
  | n :: ns, h => by
    show (decide (n.natAbs.log2 < 1920) && PyData.showableAll (ns.map PyData.int)) = true
    rw [show_ints ns fun m hm => h m (List.mem_cons_of_mem _ hm)]
    have h1 := h n (List.mem_cons_self ..)
    have h2 : n.natAbs.log2 < 1920 := by
      by_cases e : n.natAbs = 0
      · rw [e]; decide
      · exact (Nat.log2_lt e).mpr (Nat.lt_of_lt_of_le h1 (Nat.le_trans (by decide : 1000000 ≤ 2 ^ 20) (Nat.pow_le_pow_right (by decide) (by decide))))
    rw [decide_eq_true h2]; rfl
theorem len_ints : ∀ ns : List Int, (∀ n ∈ ns, n.natAbs < 1000000) → ((PyData.shownAll (ns.map PyData.int)).map (·.length)).sum + 2 * (PyData.shownAll (ns.map PyData.int)).length ≤ 15 * ns.length
  | [], _ => Nat.le_refl _
  | n :: ns, h => by
    have ih := len_ints ns fun m hm => h m (List.mem_cons_of_mem _ hm)
    have h1 : (PyData.shown (.int n)).length ≤ 13 := PyData.shown_int_le (Nat.lt_trans (h n (List.mem_cons_self ..)) (by decide))
    show (((PyData.shown (.int n)).length :: (PyData.shownAll (ns.map PyData.int)).map (·.length)).sum) + 2 * ((PyData.shownAll (ns.map PyData.int)).length + 1) ≤ 15 * (ns.length + 1)
    rw [List.sum_cons]
    omega
end L2
set_option Elab.async false
set_option linter.all false
set_option maxRecDepth 100000
namespace L2
open PySem PySem.Spec PyProof.Rows
theorem rep_room {k : Nat} {A : Around} (r : Room k A) : A.units + 66 < cLine := by have := r.un; omega
def fsts (cs : List Nat) : Nat → List Nat → Option (List Nat)
  | _, [] => some []
  | i, d :: ds => match nxt cs i (sg d) with
    | none => none
    | some k => (fsts cs (k + 1) ds).map (k :: ·)
def lsts (cs : List Nat) : Nat → List Nat → Option (List Nat)
  | _, [] => some []
  | e, d :: ds => match prv cs e (sg d) with
    | none => none
    | some k => (lsts cs k ds).map (k :: ·)
abbrev nInt (ks : List Nat) : List V := ks.map fun k => V.int (k : Nat)
theorem nInt_ints (ks : List Nat) : nInt ks = (ks.map fun k : Nat => (k : Int)).map V.int := by rw [List.map_map]; rfl
def AtO (H : Hp) : Option (List Nat) → V → Prop
  | none, x => x = .non
  | some ks, x => ∃ a, x = .ref a ∧ H a = some (.lst (nInt ks))
theorem AtO.same {H H' : Hp} {o : Option (List Nat)} {x : V} (h : AtO H o x) (s : Same H H') : AtO H' o x := by
  cases o with
  | none => exact h
  | some ks => obtain ⟨a, e, q⟩ := h; exact ⟨a, e, s _ _ q⟩
/-- a told list, or none: new -/
def ToldO (H : Hp) (o : Option (List Nat)) (Q : VK) : Prop := match o with
  | none => ∀ H' : Hp, Same H H' → Q .non H'
  | some ks => ∀ (p : Addr) (H' : Hp), Same H H' → H p = none → H' p = some (.lst (nInt ks)) → Q (.ref p) H'
def Few : Option (List Nat) → Prop
  | none => True
  | some ks => ks.length ≤ 1000 ∧ ∀ k ∈ ks, k < 1000000
def spFirst : Sp := fun vs H Q _ => ∃ z y : Str, vs = [.str z, .str y] ∧ z.length ≤ 200 ∧ y.length ≤ 200 ∧ ToldO H (fsts z.cps.toList 0 y.cps.toList) Q
def lastP (cs ds : List Nat) : Option (List Nat) := (lsts cs cs.length ds.reverse).map List.reverse
def spLast : Sp := fun vs H Q _ => ∃ z y : Str, vs = [.str z, .str y] ∧ z.length ≤ 200 ∧ y.length ≤ 200 ∧ ToldO H (lastP z.cps.toList y.cps.toList) Q
def spSameL : Sp := fun vs H Q _ => ∃ (x y : V) (o : Option (List Nat)), vs = [x, y] ∧ AtO H o x ∧ AtO H o y ∧ Few o ∧ Q (.bl true) H
def spPart : Sp := fun vs H Q _ => ∃ (p : Addr) (z : Str), vs = [.ref p, .str z] ∧ HandAt H p ∧ IsRow z ∧ z.length ≤ 200 ∧ ∀ (x : Str) (H' : Hp), IsRow x → x.length ≤ z.length → HandAt H' p → Kp p H H' → Q (.str x) H'
def spOther : Sp := fun vs H Q _ => ∃ (p : Addr) (z : Str), vs = [.ref p, .str z] ∧ HandAt H p ∧ IsRow z ∧ z.length ≤ 80 ∧ ∀ (x : Str) (H' : Hp), IsRow x → x.length ≤ 80 → HandAt H' p → Kp p H H' → Q (.str x) H'
def spRight : Sp := fun vs H Q _ => ∃ z y : Str, vs = [.str z, .str y] ∧ z.length ≤ 200 ∧ y.length ≤ 200 ∧ ∀ H' : Hp, Same H H' → Q (.bl true) H'
end L2
set_option Elab.async false
set_option linter.all false
set_option maxRecDepth 100000
namespace L2
open PySem
def NewO (H : Hp) (x : V) : Prop := ∀ a, x = .ref a → H a = none
/-- a list of the callee's own, or none -/
def OwnL (H Hx : Hp) (p : Addr) (n : Nat) (x : V) : Prop := x = .non ∨ ∃ a xs, x = .ref a ∧ Hx a = some (.lst xs) ∧ xs.length ≤ n ∧ a ≠ p ∧ H a = none
theorem OwnL.of {H Hx : Hp} {p : Addr} {o : Option (List Nat)} {x : V} (h : AtO Hx o x) (fw : Few o) (n : NewO H x) (hp : ∀ a, x = .ref a → a ≠ p) : OwnL H Hx p 1000 x := by
  cases o with
  | none => exact .inl h
  | some ks => obtain ⟨a, e, q⟩ := h; exact .inr ⟨a, _, e, q, by rw [List.length_map]; exact fw.1, hp a e, n a e⟩
theorem OwnL.upd {H Hx : Hp} {p a : Addr} {n : Nat} {x : V} {ys : List V} (h : OwnL H Hx p n x) (hy : ys.length ≤ n + 1) : OwnL H (upd Hx a (.lst ys)) p (n + 1) x := by
  rcases h with h | ⟨b, xs, e, q, l, ne, hn⟩
  · exact .inl h
  · by_cases z : b = a
    · exact .inr ⟨b, ys, e, by rw [z]; exact upd_same, hy, ne, hn⟩
    · exact .inr ⟨b, xs, e, by rw [upd_ne z]; exact q, by omega, ne, hn⟩
theorem OwnL.mono {H Hx : Hp} {p : Addr} {n m : Nat} {x : V} (h : OwnL H Hx p n x) (k : n ≤ m) : OwnL H Hx p m x := by
  rcases h with h | ⟨b, xs, e, q, l, ne, hn⟩
  · exact .inl h
  · exact .inr ⟨b, xs, e, q, by omega, ne, hn⟩
theorem AtO.ne {H : Hp} {o : Option (List Nat)} {x : V} {p : Addr} (h : AtO H o x) (n : H p = none) : ∀ a, x = .ref a → a ≠ p := fun a e => by
  cases o with
  | none => rw [show x = .non from h] at e; cases e
  | some ks => obtain ⟨b, e2, q⟩ := h; rw [e2] at e; cases e; exact ne_of_none q n
end L2
set_option Elab.async false
set_option linter.all false
set_option maxRecDepth 100000
namespace L2
open PySem PySem.Spec PyProof.Rows
def Asc (z : Str) : Prop := ∀ c ∈ z.cps.toList, c < 128
theorem Asc.app {x y : Str} (h : Asc x) (h' : Asc y) : Asc (x ++ y) := fun c hc => by
  rw [app_cps] at hc
  rcases List.mem_append.mp hc with q | q
  · exact h c q
  · exact h' c q
def strsD (zs : List Str) : List PyData := zs.map PyData.str
inductive Th (H : Hp) : V → PyData → Prop
  | non : Th H .non .none
  | bl (b : Bool) : Th H (.bl b) (.bool b)
  | int (i : Int) (h : i.natAbs < 1000) : Th H (.int i) (.int i)
  | str (z : Str) (h : Asc z) (l : z.length ≤ 4000) : Th H (.str z) (.str z)
  | lst (a : Addr) (zs : List Str) (e : H a = some (.lst (zs.map V.str))) (h : ∀ z ∈ zs, Asc z ∧ z.length ≤ 4000) (l : (zs.map (·.length)).sum + zs.length ≤ 8000) : Th H (.ref a) (.list (strsD zs))
  | tup (a : Addr) (zs : List Str) (e : H a = some (.tup (zs.map V.str))) (h : ∀ z ∈ zs, Asc z ∧ z.length ≤ 4000) (l : (zs.map (·.length)).sum + zs.length ≤ 8000) : Th H (.ref a) (.tuple (strsD zs))
  | dct (a : Addr) (ps : List (Str × Int)) (e : H a = some (.dK (kvsOf ps))) (h : ∀ p ∈ ps, Asc p.1 ∧ p.1.length ≤ 4000 ∧ p.2.natAbs < 1000) (l : ps.length ≤ 1) : Th H (.ref a) (.dict (datOf ps))
theorem Th.same {H H' : Hp} {x : V} {d : PyData} (t : Th H x d) (s : Same H H') : Th H' x d := by
  cases t with
  | non => exact .non
  | bl b => exact .bl b
  | int i h => exact .int i h
  | str z h l => exact .str z h l
  | lst a zs e h l => exact .lst a zs (s _ _ e) h l
  | tup a zs e h l => exact .tup a zs (s _ _ e) h l
  | dct a ps e h l => exact .dct a ps (s _ _ e) h l
theorem Th.kp {H H' : Hp} {x : V} {d : PyData} {p : Addr} (t : Th H x d) (hp : HandAt H p) (k : Kp p H H') : Th H' x d := by
  obtain ⟨d1, r, hh, _⟩ := hp.ex
  cases t with
  | non => exact .non
  | bl b => exact .bl b
  | int i h => exact .int i h
  | str z h l => exact .str z h l
  | lst a zs e h l =>
    refine .lst a zs (k _ _ e (fun z => ?_)) h l
    subst z
    rw [hh] at e
    have e2 := HO.lst.inj (Option.some.inj e)
    cases zs with
    | nil => cases e2
    | cons z zs => cases e2
  | tup a zs e h l => exact .tup a zs (k _ _ e (ne_of e hh (by intro z; cases z))) h l
  | dct a ps e h l => exact .dct a ps (k _ _ e (ne_of e hh (by intro z; cases z))) h l
theorem asc_short {z : Str} (h : Asc z) : (z.cps.toList.all fun c => decide (c < 16 ^ 8)) = true := by
  rw [List.all_eq_true]
  intro c hc
  have := h c hc
  exact decide_eq_true (by omega)
theorem strs_short : ∀ zs : List Str, (∀ z ∈ zs, Asc z) → PyData.leavesShortAll 13 (strsD zs) = true
  | [], _ => rfl
  | z :: zs, h => by
    show ((z.cps.toList.all fun c => decide (c < 16 ^ 8)) && PyData.leavesShortAll 13 (strsD zs)) = true
    rw [asc_short (h z (List.mem_cons_self ..)), strs_short zs fun y hy => h y (List.mem_cons_of_mem _ hy)]; rfl
theorem strs_show : ∀ zs : List Str, PyData.showableAll (strsD zs) = true
  | [] => rfl
  | z :: zs => by show (true && PyData.showableAll (strsD zs)) = true; rw [strs_show zs]; rfl
theorem strs_nodict : ∀ zs : List Str, PyData.hasDictAll (strsD zs) = false
  | [] => rfl
  | z :: zs => strs_nodict zs
theorem strs_depth : ∀ zs : List Str, PyData.depthAll (strsD zs) = 0
  | [] => rfl
  | z :: zs => by show max (PyData.depth (.str z)) (PyData.depthAll (strsD zs)) = 0; rw [strs_depth zs]; rfl
theorem strs_weight : ∀ zs : List Str, PyData.weightAll (strsD zs) = (zs.map (·.length)).sum + zs.length
  | [] => rfl
  | z :: zs => by
    show z.cps.size + 1 + PyData.weightAll (strsD zs) = _
    rw [strs_weight zs, List.map_cons, List.sum_cons, List.length_cons]
    show z.length + 1 + _ = _
    omega
theorem strs_dp {K : PySem.W.Frag} {H : Hp} : ∀ zs : List Str, DpAll K H (zs.map V.str) (strsD zs)
  | [] => .nil
  | z :: zs => .cons (.str z) (strs_dp zs)
theorem int_shown {i : Int} (h : i.natAbs < 1000) : decide ((PyData.shown (.int i)).length ≤ 13) = true := decide_eq_true (PyData.shown_int_le (Nat.lt_trans h (by decide)))
theorem int_log {i : Int} (h : i.natAbs < 1000) : i.natAbs.log2 < 1920 := by
  by_cases e : i.natAbs = 0
  · rw [e]; decide
  · exact (Nat.log2_lt e).mpr (Nat.lt_of_lt_of_le h (Nat.le_trans (by decide : 1000 ≤ 2 ^ 10) (Nat.pow_le_pow_right (by decide) (by decide))))
/-- a thing's text is told -/
theorem Th.repr {K : PySem.W.Frag} {H : Hp} {x : V} {d : PyData} {Q : VK} (t : Th H x d) (q : Q (.str d.shown) H) : rRepr K [x] H Q ∨ rReprD [x] H Q := by
  cases t with
  | non => exact .inl ⟨_, _, rfl, .non, rfl, rfl, by decide, by decide +kernel, q⟩
  | bl b => exact .inl ⟨_, _, rfl, .bl b, rfl, rfl, by show 0 ≤ 64; decide, by cases b <;> decide +kernel, q⟩
  | int i h => exact .inl ⟨_, _, rfl, .int i, decide_eq_true (int_log h), rfl, by show 0 ≤ 64; decide, Nat.le_trans (PyData.shown_int_le (Nat.lt_trans h (by decide))) (by decide), q⟩
  | str z h l => exact .inl ⟨_, _, rfl, .str z, rfl, rfl, by show 0 ≤ 64; decide, PyData.shown_fits (B := 13) (by decide) (by decide) (asc_short h) (by show z.length ≤ _; omega), q⟩
  | lst a zs e h l =>
    refine .inl ⟨_, _, rfl, .lst (SqL.of e) (strs_dp zs), strs_show zs, strs_nodict zs, ?_, PyData.shown_fits (B := 13) (by decide) (by decide) (strs_short zs fun z hz => (h z hz).1) ?_, q⟩
    · show PyData.depthAll (strsD zs) + 1 ≤ 64
      rw [strs_depth]; decide
    · show PyData.weightAll (strsD zs) ≤ 2 ^ 20
      rw [strs_weight]
      exact Nat.le_trans l (by decide)
  | tup a zs e h l =>
    refine .inl ⟨_, _, rfl, .tup (SqT.of e) (strs_dp zs), strs_show zs, strs_nodict zs, ?_, PyData.shown_fits (B := 13) (by decide) (by decide) (strs_short zs fun z hz => (h z hz).1) ?_, q⟩
    · show PyData.depthAll (strsD zs) + 1 ≤ 64
      rw [strs_depth]; decide
    · show PyData.weightAll (strsD zs) ≤ 2 ^ 20
      rw [strs_weight]
      exact Nat.le_trans l (by decide)
  | dct a ps e h l =>
    refine .inr ⟨a, ps, rfl, e, ?_, PyData.shown_fits (B := 13) (by decide) (by decide) ?_ ?_, ?_, q⟩
    · match ps, l with
      | [], _ => rfl
      | [(z, n)], _ =>
        show (true && decide (n.natAbs.log2 < 1920) && true) = true
        rw [decide_eq_true (int_log (h (z, n) (List.mem_singleton.mpr rfl)).2.2)]; rfl
    · match ps, l with
      | [], _ => rfl
      | [(z, n)], _ =>
        have hz := h (z, n) (List.mem_singleton.mpr rfl)
        show ((z.cps.toList.all fun c => decide (c < 16 ^ 8)) && decide ((PyData.shown (.int n)).length ≤ 13) && true) = true
        rw [asc_short hz.1, int_shown hz.2.2]; rfl
    · match ps, l with
      | [], _ => exact Nat.zero_le _
      | [(z, n)], _ =>
        have hz := h (z, n) (List.mem_singleton.mpr rfl)
        have hlg : n.natAbs.log2 < 1920 := int_log hz.2.2
        have hzl : z.length ≤ 4000 := hz.2.1
        show z.length + (if n == 0 then 0 else n.natAbs.log2 + 1) + 2 + 0 ≤ 2 ^ 20
        split <;> omega
    · match ps, l with
      | [], _ => show 0 + 1 ≤ 64; decide
      | [(z, n)], _ => show max (max 0 0) 0 + 1 ≤ 64; decide
end L2
set_option Elab.async false
set_option linter.all false
set_option maxRecDepth 100000
set_option maxHeartbeats 8000000
namespace L2
open PySem
def spIsRow2 (K : PySem.W.Frag) (P : Addr) : Sp := fun vs H Q _ => ∃ x, vs = [x] ∧ ((∃ z : Str, x = .str z ∧ H P = some (.ext (TabP P)) ∧ Q (.bl (rowB z)) H) ∨ (IsI K H x "str" false ∧ Q (.bl false) H) ∨ ∃ a, x = .ref a ∧ H a = some (.ext (ExcP "ValueError" a)) ∧ Q (.bl false) H)
theorem strs_ok : ∀ zs : List Str, (∀ z ∈ zs, Asc z) → PyData.canLayAll0 (strsD zs) = true
  | [], _ => rfl
  | z :: zs, h => by
    have hz : (z.cps.all (· < 0x110000)) = true := by
      rw [← Array.all_toList, List.all_eq_true]
      intro c hc
      have := h z (List.mem_cons_self ..) c hc
      exact decide_eq_true (by omega)
    show ((z.cps.all (· < 0x110000)) && PyData.canLayAll0 (strsD zs)) = true
    rw [strs_ok zs fun y hy => h y (List.mem_cons_of_mem _ hy), hz]; rfl
theorem shaped_strs (zs : List Str) (h : ∀ z ∈ zs, Asc z) : SeqAt.shaped (.list (strsD zs)) = true := by
  show (PyData.canLayAll0 (strsD zs) && decide (PyData.depthAll (strsD zs) + 1 ≤ 64)) = true
  rw [strs_ok zs h, strs_depth]; rfl
theorem eqv_strs_nil (zs : List Str) : PyData.eqv (.list (strsD zs)) (.list []) = decide (zs = []) := by
  cases zs with
  | nil => rfl
  | cons z zs => rfl
theorem nInt_snoc (ks : List Nat) (k : Nat) : nInt ks ++ [V.int (k : Nat)] = nInt (ks ++ [k]) := by simp
def spFirst2 : Sp := fun vs H Q _ => ∃ z y : Str, vs = [.str z, .str y] ∧ z.length ≤ 200 ∧ y.length ≤ 4000 ∧ ToldO H (fsts z.cps.toList 0 y.cps.toList) Q
def spIsLeft2 (K : PySem.W.Frag) (P : Addr) : Sp := fun vs H Q _ => ∃ (z : Str) (x : V), vs = [.str z, x] ∧ z.length ≤ 200 ∧
  ((∃ y : Str, x = .str y ∧ y.length ≤ 4000 ∧ H P = some (.ext (TabP P)) ∧ ∀ H', Same H H' → Q (.bl (rowB y && (fsts z.cps.toList 0 y.cps.toList).isSome)) H') ∨ (IsI K H x "str" false ∧ Q (.bl false) H) ∨ ∃ a, x = .ref a ∧ H a = some (.ext (ExcP "ValueError" a)) ∧ Q (.bl false) H)
end L2
set_option Elab.async false
set_option linter.all false
set_option maxRecDepth 100000
set_option maxHeartbeats 8000000
namespace Lv
open PySem L2
section
variable {P : Program} {w : World} {K : PySem.W.Frag} {mg : Str → Option Value} {base : Heap} {f : Addr} {fd : FuncData}
abbrev sIsRow : Stmt := top 4
def nIsRow : List Str := ["thing"]
theorem scIsRow : FnScope nIsRow ["thing"] (defScope sIsRow) := ⟨rfl, rfl, rfl, by decide +kernel, rfl, by decide +kernel, by decide +kernel⟩
theorem ok_isrow {c tb : Addr} (T : Glb mg) (B : BModB base mg) (ck : CodeK K c tb) (hc : fd.code = .ref c) (F : Fun K "is_row" "is_row" sIsRow f fd) : FnOk P w K mg base CX0 1 f fd ["thing"] (spIsRow2 K tb) := by
  refine F.okC hc scIsRow (fun vs H Q E h => ?_) (fun A outer s H vs Q E hr h => ?_)
  · obtain ⟨x, rfl, _⟩ := h
    rfl
  obtain ⟨x, rfl, h⟩ := h
  refine ⟨_, (pss_one (ps_ret (pe_and (pe_callB (cr_isi.or cr_isiE) rfl T.m_isinstance (by decide +kernel) (pa_cons (pv 0) (pa_cons (pe_bltn (v := .ty "str") rfl T.m_str (by decide +kernel) rfl) pa_nil))) (pe_one (pe_allS rfl T.m_all hr rfl ck B (pv 0) (el_between rfl rfl)))))), ?_⟩
  rcases h with ⟨z, rfl, hP, q⟩ | ⟨hi, q⟩ | ⟨a, rfl, ha, q⟩
  · refine ⟨_, rfl, .inl ⟨_, _, _, rfl, .s_str _, true, rfl, ?_⟩⟩
    refine iteT ?_
    exact ⟨_, rfl, z, rfl, hP, q⟩
  · refine ⟨_, rfl, .inl ⟨_, _, _, rfl, hi, false, rfl, ?_⟩⟩
    refine iteF ?_
    exact q
  · refine ⟨_, rfl, .inr ⟨a, rfl, ha, false, rfl, ?_⟩⟩
    refine iteF ?_
    exact q
end
end Lv
set_option Elab.async false
set_option linter.all false
set_option maxRecDepth 100000
namespace L2
open PySem PySem.Spec PyProof.Rows
structure DrawsAt (H : Hp) (p : Addr) : Prop where
  ex : ∃ ns : List Int, H p = some (.lst (ns.map V.int)) ∧ (∀ n ∈ ns, 0 ≤ n ∧ n < 1000) ∧ ns.length ≤ 240
theorem DrawsAt.kp {H H' : Hp} {p q : Addr} (h : DrawsAt H p) (k : Kp q H H') (n : p ≠ q) : DrawsAt H' p := by
  obtain ⟨ns, e, z⟩ := h.ex
  exact ⟨ns, k _ _ e n, z⟩
theorem DrawsAt.same {H H' : Hp} {p : Addr} (h : DrawsAt H p) (k : Same H H') : DrawsAt H' p := by
  obtain ⟨ns, e, z⟩ := h.ex
  exact ⟨ns, k _ _ e, z⟩
theorem DrawsAt.ne {H : Hp} {p q : Addr} (h : DrawsAt H p) (n : H q = none) : q ≠ p := by
  obtain ⟨ns, e, z⟩ := h.ex
  exact (ne_of_none e n).symm
theorem Kp.freeD {p : Addr} {H H' : Hp} (k : Kp p H H') (h : DrawsAt H' p) {q : Addr} (n : H' q = none) : H q = none := by
  cases e : H q with
  | none => rfl
  | some o =>
    have := k q o e (h.ne n)
    rw [n] at this; cases this
def spDraws (K : PySem.W.Frag) : Sp := fun vs H Q _ => ∃ (a : Addr) (ns : List Int), vs = [.ref a] ∧ SqL K H a (ns.map V.int) ∧ Scr K H a (ns.map V.int) ∧ ns.length ≤ 63 ∧ ∀ (p : Addr) (H' : Hp), H p = none → DrawsAt H' p → Same H H' → Q (.ref p) H'
def spTake : Sp := fun vs H Q _ => ∃ (p : Addr) (L : Int), vs = [.ref p, .int L] ∧ DrawsAt H p ∧ 0 < L ∧ ∀ (v : Int) (H' : Hp), 0 ≤ v → v < L → DrawsAt H' p → Kp p H H' → Q (.int v) H'
def abcC (k : Int) : Nat := 97 + (k % 26).toNat
theorem abcC_ok (k : Int) : 97 ≤ abcC k ∧ abcC k ≤ 122 := by
  unfold abcC
  have h1 : 0 ≤ k % 26 := Int.emod_nonneg _ (by decide)
  have h2 : k % 26 < 26 := Int.emod_lt_of_pos _ (by decide)
  omega
def spAbc : Sp := fun vs H Q _ => ∃ k : Int, vs = [.int k] ∧ Q (.str (sg (abcC k))) H
/-- some signs -/
structure SignsAt (H : Hp) (q : Addr) (cs : List Nat) : Prop where
  at_ : H q = some (.lst ((cs.map sg).map V.str))
  ne : cs ≠ []
  le : cs.length ≤ 26
  ok : ∀ c ∈ cs, 97 ≤ c ∧ c ≤ 122
theorem SignsAt.kp {H H' : Hp} {q p : Addr} {cs : List Nat} (h : SignsAt H q cs) (k : Kp p H H') (n : q ≠ p) : SignsAt H' q cs := ⟨k _ _ h.at_ n, h.ne, h.le, h.ok⟩
theorem SignsAt.same {H H' : Hp} {q : Addr} {cs : List Nat} (h : SignsAt H q cs) (k : Same H H') : SignsAt H' q cs := ⟨k _ _ h.at_, h.ne, h.le, h.ok⟩
theorem SignsAt.pos {H : Hp} {q : Addr} {cs : List Nat} (h : SignsAt H q cs) : 0 < cs.length := List.length_pos_iff.mpr h.ne
theorem sgs_at' {cs : List Nat} {v : Int} (h0 : 0 ≤ v) (h1 : v < cs.length) : ∃ c, c ∈ cs ∧ atI ((cs.map sg).map V.str) v = some (.str (sg c)) := by
  obtain ⟨x, hx, _, hx2⟩ := at_in (xs := (cs.map sg).map V.str) (v := v) h0 (by rw [List.length_map, List.length_map]; exact h1)
  obtain ⟨y, hy, rfl⟩ := List.mem_map.mp hx
  obtain ⟨c, hc, rfl⟩ := List.mem_map.mp hy
  exact ⟨c, hc, hx2⟩
def spSigns : Sp := fun vs H Q _ => ∃ p, vs = [.ref p] ∧ DrawsAt H p ∧ ∀ (q : Addr) (cs : List Nat) (H' : Hp), SignsAt H' q cs → q ≠ p → H q = none → DrawsAt H' p → Kp p H H' → Q (.ref q) H'
structure GrowAt (C : Addr) (H : Hp) (g : Addr) (z : Str) : Prop where
  ex : ∃ dx, H g = some (.ins C dx [("letters", .str z)])
  row : IsRow z
  le : z.length ≤ 80
theorem GrowAt.same {C : Addr} {H H' : Hp} {g : Addr} {z : Str} (h : GrowAt C H g z) (s : Same H H') : GrowAt C H' g z := let ⟨dx, e⟩ := h.ex; ⟨⟨dx, s _ _ e⟩, h.row, h.le⟩
theorem GrowAt.kp {C : Addr} {H H' : Hp} {g p : Addr} {z : Str} (h : GrowAt C H g z) (k : Kp p H H') (n : g ≠ p) : GrowAt C H' g z := let ⟨dx, e⟩ := h.ex; ⟨⟨dx, k _ _ e n⟩, h.row, h.le⟩
theorem GrowAt.ne {C : Addr} {H : Hp} {g q : Addr} {z : Str} (h : GrowAt C H g z) (n : H q = none) : q ≠ g := by
  obtain ⟨dx, e⟩ := h.ex
  exact (ne_of_none e n).symm
theorem GrowAt.neT {C : Addr} {H : Hp} {g p : Addr} {z : Str} (h : GrowAt C H g z) (d : H p = some (.ext (TabP p))) : p ≠ g := by
  obtain ⟨dx, e⟩ := h.ex
  exact ne_of d e (by intro z; cases z)
theorem DrawsAt.neT {H : Hp} {g p : Addr} (h : DrawsAt H g) (d : H p = some (.ext (TabP p))) : p ≠ g := by
  obtain ⟨ns, e, _⟩ := h.ex
  exact ne_of d e (by intro z; cases z)
def spGInit (C : Addr) : Sp := fun vs H Q _ => ∃ p dx : Addr, vs = [.ref p] ∧ H p = some (.ins C dx []) ∧ ∀ H', GrowAt C H' p (Str.ofString "") → Kp p H H' → Q .non H'
def spGPut (C P : Addr) : Sp := fun vs H Q _ => ∃ (g : Addr) (z : Str) (c : Nat), vs = [.ref g, .str (sg c)] ∧ GrowAt C H g z ∧ z.length < 80 ∧ (97 ≤ c ∧ c ≤ 122) ∧ H P = some (.ext (TabP P)) ∧ ∀ H', GrowAt C H' g (z ++ sg c) → Kp g H H' → Q .non H'
def undoS (z : Str) : Str := cutS z none (some (-1))
def spGUndo (C : Addr) : Sp := fun vs H Q _ => ∃ (g : Addr) (z : Str), vs = [.ref g] ∧ GrowAt C H g z ∧ (z.length = 0 → Q (.bl false) H) ∧ (0 < z.length → ∀ H', GrowAt C H' g (undoS z) → Kp g H H' → Q (.bl true) H')
def spGRow (C : Addr) : Sp := fun vs H Q _ => ∃ (g : Addr) (z : Str), vs = [.ref g] ∧ GrowAt C H g z ∧ Q (.str z) H
def spGMany (C : Addr) : Sp := fun vs H Q _ => ∃ (g : Addr) (z : Str), vs = [.ref g] ∧ GrowAt C H g z ∧ ∀ H', Same H H' → Q (.int (mn z.cps.toList)) H'
def spGLens (C : Addr) : Sp := fun vs H Q _ => ∃ (g : Addr) (z : Str), vs = [.ref g] ∧ GrowAt C H g z ∧ ∀ (m : Addr) (H' : Hp), Same H H' → H m = none → H' m = some (.lst (tabI (z.cps.toList.length + 1) (dn z.cps.toList))) → Q (.ref m) H'
theorem len_sg (c : Nat) : (sg c).length = 1 := rfl
theorem row_sg {c : Nat} (h : 97 ≤ c ∧ c ≤ 122) : IsRow (sg c) := fun d hd => by
  have : d = c := List.mem_singleton.mp (show d ∈ [c] from hd)
  rw [this]; exact h
end L2
set_option Elab.async false
set_option linter.all false
set_option maxRecDepth 100000
set_option maxHeartbeats 8000000
namespace Lv
open PySem L2
section
variable {P : Program} {w : World} {K : PySem.W.Frag} {mg : Str → Option Value} {base : Heap} {f : Addr} {fd : FuncData}
abbrev sLawDraws : Stmt := top 12
def nLawDraws : List Str := ["script", "draws", "k", "rest", "stir", "many"]
theorem scLawDraws : FnScope nLawDraws ["script"] (defScope sLawDraws) := ⟨rfl, rfl, rfl, by decide +kernel, rfl, by decide +kernel, by decide +kernel⟩
theorem ok_draws (T : Glb mg) (m_abs : mg "abs" = none) (F : Fun K "_law_draws" "_law_draws" sLawDraws f fd) : FnOk P w K mg base CX0 1 f fd ["script"] (spDraws K) := by
  refine F.ok scLawDraws (fun vs H Q E h => ?_) (fun cdv A outer s H vs Q E hr h => ?_)
  · obtain ⟨a, ns, rfl, _⟩ := h
    rfl
  obtain ⟨a, ns, rfl, hS, hScr, h63, q⟩ := h
  have hu := hu_of hr
  refine' ⟨_, ?TT, ?RR⟩
  case TT =>
    refine' pss_cons ?x60 ?x61
    case x60 =>
     refine' ps_set (i := 1) scLawDraws.nd rfl (Or.inl rfl) ?x62
     case x62 =>
      refine' pe_lst ?x63
      case x63 =>
       exact pa_nil
    case x61 =>
     refine' pss_cons ?x64 ?x65
     case x64 =>
      refine' ps_for PassesOwn.never rfl ?x66 (pg_name (i := 2) scLawDraws.nd rfl (Or.inl rfl)) ?x67
      case x66 =>
       refine' pi_range1 rfl T.m_range ?x68
       case x68 =>
        refine' pa_Call ?x69 ?x70
        case x69 =>
         refine' pe_callB (call_min2 rfl) rfl T.m_min (by decide +kernel) ?x71
         case x71 =>
          refine' pa_Call ?x72 ?x73
          case x72 =>
           refine' pe_callB call_len_seq rfl T.m_len PySem.boot_len ?x74
           case x74 =>
            refine' pa_Name (pv 0) ?x75
            case x75 =>
             exact pa_nil
          case x73 =>
           refine' pa_Const ?x76 ?x77
           case x76 =>
            exact pe_int
           case x77 =>
            exact pa_nil
        case x70 =>
         exact pa_nil
      case x67 =>
       refine' pss_cons ?x78 ?x79
       case x78 =>
        refine' ps_set (i := 3) scLawDraws.nd rfl (Or.inl rfl) ?x80
        case x80 =>
         refine' pe_callB call_abs rfl m_abs (by decide +kernel) ?x81
         case x81 =>
          refine' pa_Subscript ?x82 ?x83
          case x82 =>
           exact (pe_ix ix_list (pv 0) (pv 2) (fun _ _ => rfl))
          case x83 =>
           exact pa_nil
       case x79 =>
        refine' pss_one ?x84
        case x84 =>
         refine' ps_if ?x85 ?x86 ?x87
         case x85 =>
          refine' pt_cmpR op_lt (pv 3) ?x88 (nomark _)
          case x88 =>
           refine' pe_op op_pow ?x89 ?x90
           case x89 =>
            exact pe_int
           case x90 =>
            exact pe_int
         case x86 =>
          refine' pss_cons ?x91 ?x92
          case x91 =>
           refine' ps_set (i := 4) scLawDraws.nd rfl (Or.inl rfl) ?x93
           case x93 =>
            refine' pe_op op_mod ?x94 ?x95
            case x94 =>
             refine' pe_op op_mul ?x96 ?x97
             case x96 =>
              refine' pe_op op_mod ?x98 ?x99
              case x98 =>
               refine' pe_op op_add ?x100 ?x101
               case x100 =>
                refine' pe_op op_add (pv 3) ?x102
                case x102 =>
                 refine' pe_op op_mul ?x103 (pv 2)
                 case x103 =>
                  exact pe_int
               case x101 =>
                exact pe_int
              case x99 =>
               exact pe_int
             case x97 =>
              exact pe_int
            case x95 =>
             exact pe_int
          case x92 =>
           refine' pss_cons ?x104 ?x105
           case x104 =>
            refine' ps_set (i := 4) scLawDraws.nd rfl (Or.inl rfl) ?x106
            case x106 =>
             refine' pe_op op_mod ?x107 ?x108
             case x107 =>
              exact (pe_op op_mul (pv 4) (pv 4))
             case x108 =>
              exact pe_int
           case x105 =>
            refine' pss_cons ?x109 ?x110
            case x109 =>
             refine' ps_expr ?x111
             case x111 =>
              refine' pe_bm PySem.F.plainAttrs_list PySem.F.slot_list_append PySem.F.type_list_append mt_append (pv 1) ?x112
              case x112 =>
               refine' pa_BinOp ?x113 ?x114
               case x113 =>
                refine' pe_op op_mod ?x115 ?x116
                case x115 =>
                 refine' pe_op op_fdiv (pv 4) ?x117
                 case x117 =>
                  exact pe_int
                case x116 =>
                 exact pe_int
               case x114 =>
                exact pa_nil
            case x110 =>
             refine' pss_cons ?x118 ?x119
             case x118 =>
              refine' ps_expr ?x120
              case x120 =>
               refine' pe_bm PySem.F.plainAttrs_list PySem.F.slot_list_append PySem.F.type_list_append mt_append (pv 1) ?x121
               case x121 =>
                refine' pa_BinOp ?x122 ?x123
                case x122 =>
                 refine' pe_op op_mod ?x124 ?x125
                 case x124 =>
                  refine' pe_op op_fdiv (pv 4) ?x126
                  case x126 =>
                   exact pe_int
                 case x125 =>
                  exact pe_int
                case x123 =>
                 exact pa_nil
             case x119 =>
              refine' pss_cons ?x127 ?x128
              case x127 =>
               refine' ps_set (i := 4) scLawDraws.nd rfl (Or.inl rfl) ?x129
               case x129 =>
                refine' pe_op op_mod ?x130 ?x131
                case x130 =>
                 refine' pe_op op_add (pv 4) ?x132
                 case x132 =>
                  refine' pe_op op_mul ?x133 ?x134
                  case x133 =>
                   exact pe_int
                  case x134 =>
                   refine' pe_op op_add (pv 2) ?x135
                   case x135 =>
                    exact pe_int
                case x131 =>
                 exact pe_int
              case x128 =>
               refine' pss_one ?x136
               case x136 =>
                refine' ps_expr ?x137
                case x137 =>
                 refine' pe_bm PySem.F.plainAttrs_list PySem.F.slot_list_append PySem.F.type_list_append mt_append (pv 1) ?x138
                 case x138 =>
                  refine' pa_BinOp ?x139 ?x140
                  case x139 =>
                   refine' pe_op op_mod ?x141 ?x142
                   case x141 =>
                    refine' pe_op op_fdiv ?x143 ?x144
                    case x143 =>
                     refine' pe_op op_mod ?x145 ?x146
                     case x145 =>
                      exact (pe_op op_mul (pv 4) (pv 4))
                     case x146 =>
                      exact pe_int
                    case x144 =>
                     exact pe_int
                   case x142 =>
                    exact pe_int
                  case x140 =>
                   exact pa_nil
         case x87 =>
          refine' pss_cons ?x147 ?x148
          case x147 =>
           refine' ps_set (i := 5) scLawDraws.nd rfl (Or.inl rfl) ?x149
           case x149 =>
            exact pe_int
          case x148 =>
           refine' pss_one ?x150
           case x150 =>
            refine' ps_while PassesOwn.never ?x151 ?x152
            case x151 =>
             refine' PW.pt ?x153
             case x153 =>
              refine' pw_and ?x154 ?x155
              case x154 =>
               refine' pt_cmpR op_ge (pv 3) ?x156 (nomark _)
               case x156 =>
                exact pe_int
              case x155 =>
               refine' pw_and1 ?x157
               case x157 =>
                refine' pt_cmpR op_lt (pv 5) ?x158 (nomark _)
                case x158 =>
                 exact pe_int
            case x152 =>
             refine' pss_cons ?x159 ?x160
             case x159 =>
              refine' ps_expr ?x161
              case x161 =>
               refine' pe_bm PySem.F.plainAttrs_list PySem.F.slot_list_append PySem.F.type_list_append mt_append (pv 1) ?x162
               case x162 =>
                refine' pa_BinOp ?x163 ?x164
                case x163 =>
                 refine' pe_op op_mod (pv 3) ?x165
                 case x165 =>
                  exact pe_int
                case x164 =>
                 exact pa_nil
             case x160 =>
              refine' pss_cons ?x166 ?x167
              case x166 =>
               refine' ps_set (i := 3) scLawDraws.nd rfl (Or.inl rfl) ?x168
               case x168 =>
                refine' pe_op op_fdiv (pv 3) ?x169
                case x169 =>
                 exact pe_int
              case x167 =>
               refine' pss_one ?x170
               case x170 =>
                refine' ps_set (i := 5) scLawDraws.nd rfl (Or.inl rfl) ?x171
                case x171 =>
                 refine' pe_op op_add (pv 5) ?x172
                 case x172 =>
                  exact pe_int
     case x65 =>
      refine' pss_one ?x173
      case x173 =>
       refine' ps_ret ?x174
       case x174 =>
        exact (pe_slice sl_list (pv 1) po_none (po_some pe_int))
  case RR =>
    refine ⟨(by show 0 ≤ sizeLine; decide), fun p hp => ?_⟩
    have s0 := same_new hp (.lst [])
    refine ⟨_, rfl, a, _, rfl, .inl (hScr.same s0).seq, _, _, rfl, ?_⟩
    have hj : (if (80 : Int) < ((ns.map V.int).length : Nat) then (80 : Int) else ((ns.map V.int).length : Nat)) = (ns.length : Int) := by
      rw [List.length_map, if_neg (by omega)]
    refine ⟨_, rfl, by rw [hj]; omega, by rw [hj]; omega, ?_⟩
    rw [hj, Int.toNat_natCast]
    refine for_range (lo := 0) (n := ns.length) (fun t σ H1 => ∃ (v2 v3 v4 v5 : Option V) (ds : List Int), σ = [some (.ref a), some (.ref p), v2, v3, v4, v5] ∧ Kp p H H1 ∧ H1 p = some (.lst (ds.map V.int)) ∧ ds.length ≤ 60 * t ∧ ∀ n ∈ ds, 0 ≤ n ∧ n < 1000) ?_ ?_ ?_
    · exact ⟨none, none, none, none, [], rfl, s0.kp p, upd_same, Nat.le_refl _, fun n hn => nomatch hn⟩
    · rintro t σ H1 ht ⟨v2, v3, v4, v5, ds, rfl, kp, hD, hdl, hds⟩
      have hSq : SqL K H1 a (ns.map V.int) := by
        rcases hScr with ⟨o, h⟩ | h
        · exact .inl (.inr ⟨o, kp _ _ h (ne_of_none h hp)⟩)
        · exact .inr h
      obtain ⟨x, hx⟩ : ∃ x, ns[t]? = some x := ⟨_, List.getElem?_eq_getElem ht⟩
      have ei : (0 : Int) + (t : Nat) = ((t : Nat) : Int) := by omega
      rw [ei]
      refine ⟨_, rfl, _, rfl, a, _, _, .int x, rfl, rfl, hSq, atI_nat (by rw [List.getElem?_map, hx]; rfl), _, rfl, ?_⟩
      generalize hrs : (if x < 0 then -x else x) = rest
      have hr0 : 0 ≤ rest := by rw [← hrs]; split <;> omega
      have small : ∀ k, k ≤ 60 * t + 60 → k < sizeLine := fun k hk => Nat.lt_of_le_of_lt (Nat.le_trans hk (by omega : 60 * t + 60 ≤ 4000)) (by decide)
      refine ⟨_, rfl, _, _, rfl, rfl, ⟨by decide, by decide, by decide⟩, _, _, rfl, rfl, _, rfl, ?_⟩
      refine ite2 (fun _ => ?_) (fun _ => ?_)
      · have m0 : ∀ (i : Int) (j : Int), 0 < j → 0 ≤ i % j ∧ i % j < j := fun i j h => ⟨Int.emod_nonneg _ (by omega), Int.emod_lt_of_pos _ h⟩
        refine ⟨_, rfl, _, rfl, _, _, rfl, rfl, .inl ⟨by decide, by decide⟩, _, _, rfl, rfl, _, _, rfl, rfl, _, _, rfl, rfl, (by show (0 : Int) < 2147483647; decide), _, _, rfl, rfl, .inr ⟨by decide, by decide⟩, _, _, rfl, rfl, (by show (0 : Int) < 2147483647; decide), ?_⟩
        generalize hst : ((rest + 7919 * (t : Int) + 3) % 2147483647 * 48271 % 2147483647) = st
        have hs1 : 0 ≤ st ∧ st < 2147483647 := by rw [← hst]; exact m0 _ _ (by decide)
        refine ⟨_, rfl, _, rfl, _, _, rfl, rfl, .inl ⟨by omega, by omega⟩, _, _, rfl, rfl, (by show (0 : Int) < 2147483629; decide), ?_⟩
        generalize hst2 : (st * st % 2147483629) = s2
        have hs2 : 0 ≤ s2 ∧ s2 < 2147483629 := by rw [← hst2]; exact m0 _ _ (by decide)
        have hs3 := m0 (s2 / 16) 1000 (by decide)
        have hs4 := m0 (s2 / 16000) 1000 (by decide)
        refine ⟨_, rfl, .inl ⟨rfl, _, SqL.of hD⟩, _, rfl, _, _, rfl, rfl, ⟨by decide, by decide⟩, _, _, rfl, rfl, (by show (0 : Int) < 1000; decide), p, _, _, rfl, rfl, hD, by rw [List.length_map]; exact small _ (by omega), ?_⟩
        refine ⟨_, rfl, .inl ⟨rfl, _, SqL.of upd_same⟩, _, rfl, _, _, rfl, rfl, ⟨by decide, by decide⟩, _, _, rfl, rfl, (by show (0 : Int) < 1000; decide), p, _, _, rfl, rfl, upd_same, by rw [List.length_append, List.length_map]; exact small _ (by show _ + 1 ≤ _; omega), ?_⟩
        refine ⟨_, rfl, _, rfl, _, _, rfl, rfl, _, _, rfl, rfl, .inl ⟨by decide, by decide⟩, _, _, rfl, rfl, _, _, rfl, rfl, (by show (0 : Int) < 2147483587; decide), ?_⟩
        generalize hst5 : ((s2 + 40692 * ((t : Int) + 7)) % 2147483587) = s5
        have hs5 : 0 ≤ s5 ∧ s5 < 2147483587 := by rw [← hst5]; exact m0 _ _ (by decide)
        have hs6 := m0 (s5 * s5 % 2147483647 / 16) 1000 (by decide)
        refine ⟨_, rfl, .inl ⟨rfl, _, SqL.of upd_same⟩, _, rfl, _, rfl, _, _, rfl, rfl, .inl ⟨by omega, by omega⟩, _, _, rfl, rfl, (by show (0 : Int) < 2147483647; decide), _, _, rfl, rfl, ⟨by decide, by decide⟩, _, _, rfl, rfl, (by show (0 : Int) < 1000; decide), p, _, _, rfl, rfl, upd_same, by rw [List.length_append, List.length_append, List.length_map]; exact small _ (by show _ + 1 + 1 ≤ _; omega), ?_⟩
        refine ⟨_, _, _, _, ds ++ [s2 / 16 % 1000] ++ [s2 / 16000 % 1000] ++ [s5 * s5 % 2147483647 / 16 % 1000], rfl, ((kp.set).set).set, ?_, ?_, fun n hn => ?_⟩
        · rw [upd_same, List.map_append, List.map_append, List.map_append]
          subst hst5 hst2 hst
          rfl
        · rw [List.length_append, List.length_append, List.length_append]
          show _ + 1 + 1 + 1 ≤ _; omega
        · simp only [List.mem_append, List.mem_singleton] at hn
          rcases hn with ((hn | rfl) | rfl) | rfl
          · exact hds n hn
          · exact hs3
          · exact hs4
          · exact hs6
      · refine ⟨fun k σ H2 => ∃ (r : Int) (m : Nat) (v4 : Option V) (ds : List Int), k = 60 - m ∧ σ = [some (.ref a), some (.ref p), some (.int (t : Nat)), some (.int r), v4, some (.int (m : Nat))] ∧ Kp p H H2 ∧ H2 p = some (.lst (ds.map V.int)) ∧ ds.length ≤ 60 * t + m ∧ m ≤ 60 ∧ ∀ n ∈ ds, 0 ≤ n ∧ n < 1000, ?_, ?_⟩
        · exact ⟨60, rest, 0, _, ds, rfl, rfl, kp, hD, hdl, Nat.zero_le _, hds⟩
        · rintro k σ H2 ⟨r, m, v4', ds2, hk, rfl, kp2, hD2, hl2, hm, hds2⟩
          refine ⟨_, rfl, _, _, rfl, rfl, _, rfl, ?_⟩
          refine ite2 (fun c1 => ?_) (fun _ => ?_)
          · refine ⟨_, rfl, _, _, rfl, rfl, _, rfl, ?_⟩
            refine ite2 (fun c2 => ?_) (fun _ => ?_)
            · have c2' : (m : Int) < 60 := of_decide_eq_true c2
              refine ⟨_, fun σ' H' h => h, ?_⟩
              refine ⟨_, rfl, .inl ⟨rfl, _, SqL.of hD2⟩, _, rfl, _, _, rfl, rfl, (by show (0 : Int) < 1000; decide), p, _, _, rfl, rfl, hD2, by rw [List.length_map]; exact small _ (by omega), ?_⟩
              refine ⟨_, rfl, _, _, rfl, rfl, ⟨by decide, by decide⟩, _, rfl, _, _, rfl, rfl, ?_⟩
              refine ⟨k - 1, by omega, r / 1000, m + 1, v4', ds2 ++ [r % 1000], by omega, rfl, kp2.set, ?_, ?_, by omega, fun n hn => ?_⟩
              · rw [upd_same, List.map_append]; rfl
              · rw [List.length_append]; show _ + 1 ≤ _; omega
              · rcases List.mem_append.mp hn with hn | hn
                · exact hds2 n hn
                · rw [List.mem_singleton.mp hn]
                  exact ⟨Int.emod_nonneg _ (by decide), Int.emod_lt_of_pos _ (by decide)⟩
            · exact ⟨_, _, _, _, ds2, rfl, kp2, hD2, by omega, hds2⟩
          · exact ⟨_, _, _, _, ds2, rfl, kp2, hD2, by omega, hds2⟩
    · rintro σ H1 ⟨v2, v3, v4, v5, ds, rfl, kp, hD, hdl, hds⟩
      refine ⟨_, rfl, _, rfl, p, _, rfl, SqL.of hD, fun p2 hp2 => ?_⟩
      have hHp2 : H p2 = none := by
        cases e : H p2 with
        | none => rfl
        | some o => have := kp _ _ e (ne_of_none e hp); rw [hp2] at this; cases this
      refine q p2 _ hHp2 ⟨_, by rw [upd_same, map_cut], fun n hn => hds n (List.mem_of_mem_drop (List.mem_of_mem_take hn)), ?_⟩ (fun b o e => ?_)
      · rw [List.length_take]
        have := sIx_pos ds.length ds.length (v := 240) (by decide)
        rw [this]
        have : (240 : Int).toNat = 240 := rfl
        omega
      · rw [upd_ne (ne_of_none e hHp2)]
        exact kp _ _ e (ne_of_none e hp)
abbrev sLawTake : Stmt := top 13
def nLawTake : List Str := ["draws", "many"]
theorem scLawTake : FnScope nLawTake ["draws", "many"] (defScope sLawTake) := ⟨rfl, rfl, rfl, by decide +kernel, rfl, by decide +kernel, by decide +kernel⟩
theorem ok_take (T : Glb mg)  (F : Fun K "_law_take" "_law_take" sLawTake f fd) : FnOk P w K mg base CX0 1 f fd ["draws", "many"] spTake := by
  refine F.ok scLawTake (fun vs H Q E h => ?_) (fun cdv A outer s H vs Q E hr h => ?_)
  · obtain ⟨p, L, rfl, _⟩ := h
    rfl
  obtain ⟨p, L, rfl, hD, hL, q⟩ := h
  have hu := hu_of hr
  refine' ⟨_, ?TT, ?RR⟩
  case TT =>
    refine' pss_cons ?x175 ?x176
    case x175 =>
     refine' ps_if ?x177 ?x178 ?x179
     case x177 =>
      refine' pt_cmpR (op_eqD hr.units) (pv 0) ?x180 (nomark _)
      case x180 =>
       refine' pe_lst ?x181
       case x181 =>
        exact pa_nil
     case x178 =>
      refine' pss_one ?x182
      case x182 =>
       refine' ps_ret ?x183
       case x183 =>
        exact pe_int
     case x179 =>
      exact pss_nil
    case x176 =>
     refine' pss_one ?x184
     case x184 =>
      refine' ps_ret ?x185
      case x185 =>
       refine' pe_op op_mod ?x186 (pv 1)
       case x186 =>
        refine' pe_bm PySem.F.plainAttrs_list PySem.F.slot_list_pop PySem.F.type_list_pop mt_popAt (pv 0) ?x187
        case x187 =>
         refine' pa_Const ?x188 ?x189
         case x188 =>
          exact pe_int
         case x189 =>
          exact pa_nil
  case RR =>
    obtain ⟨ns, hp, hns, hle⟩ := hD.ex
    refine ⟨_, rfl, (by show 0 ≤ sizeLine; decide), fun p0 np => ?_⟩
    have s0 := same_new np (.lst [])
    refine ⟨_, _, Dp.ints (SqL.of (s0 _ _ hp)), Dp.ints (ns := []) (SqL.of upd_same), shaped_ints _, shaped_ints _, _, rfl, ?_⟩
    rw [eqv_list_ints]
    refine ite2 (fun c => ?_) (fun c => ?_)
    · exact q 0 _ (Int.le_refl 0) hL (hD.same s0) (s0.kp p)
    · cases ns with
      | nil => exact absurd (decide_eq_true rfl) c
      | cons n ns =>
        have hp1 := s0 _ _ hp
        refine ⟨_, rfl, .inl ⟨rfl, _, SqL.of hp1⟩, p, _, 0, 0, .int n, rfl, rfl, hp1, by decide, by decide, (by unfold seqIndex?; simp), rfl, ?_⟩
        refine ⟨_, rfl, _, _, rfl, rfl, hL, ?_⟩
        refine q _ _ (Int.emod_nonneg _ (by omega)) (Int.emod_lt_of_pos _ hL) ⟨ns, upd_same, fun m hm => hns m (List.mem_cons_of_mem _ hm), Nat.le_of_succ_le hle⟩ (s0.kp p).set
abbrev sLawAbc : Stmt := top 14
def nLawAbc : List Str := ["k"]
theorem scLawAbc : FnScope nLawAbc ["k"] (defScope sLawAbc) := ⟨rfl, rfl, rfl, by decide +kernel, rfl, by decide +kernel, by decide +kernel⟩
theorem ok_abc (T : Glb mg)  (F : Fun K "_law_abc" "_law_abc" sLawAbc f fd) : FnOk P w K mg base CX0 1 f fd ["k"] spAbc := by
  refine F.ok scLawAbc (fun vs H Q E h => ?_) (fun cdv A outer s H vs Q E hr h => ?_)
  · obtain ⟨k, rfl, _⟩ := h
    rfl
  obtain ⟨k, rfl, q⟩ := h
  have hu := hu_of hr
  refine' ⟨_, ?TT, ?RR⟩
  case TT =>
    refine' pss_one ?x190
    case x190 =>
     refine' ps_ret ?x191
     case x191 =>
      refine' pe_ix ix_str ?x192 ?x193 (fun _ _ => rfl)
      case x192 =>
       exact pe_str
      case x193 =>
       refine' pe_op op_mod (pv 0) ?x194
       case x194 =>
        exact pe_int
  case RR =>
    have h1 : 0 ≤ k % 26 := Int.emod_nonneg _ (by decide)
    have h2 : k % 26 < 26 := Int.emod_lt_of_pos _ (by decide)
    have e : (Str.ofString "abcdefghijklmnopqrstuvwxyz").cps.toList = (List.range 26).map (97 + ·) := by decide +kernel
    refine ⟨_, rfl, _, _, rfl, rfl, (by show (0 : Int) < 26; decide), _, _, abcC k, rfl, rfl, by decide +kernel, ?_, q⟩
    have e2 : k % 26 = ((k % 26).toNat : Int) := by omega
    rw [e, e2]
    refine atI_nat ?_
    rw [List.getElem?_map, List.getElem?_range (by omega)]; rfl
abbrev sLawSigns : Stmt := top 15
def nLawSigns : List Str := ["draws", "first", "k"]
theorem scLawSigns : FnScope nLawSigns ["draws"] (defScope sLawSigns) := ⟨rfl, rfl, rfl, by decide +kernel, rfl, by decide +kernel, by decide +kernel⟩
theorem ok_signs (T : Glb mg) (c_law_take : Callee P w K mg base 1 "_law_take" ["draws", "many"] spTake) (c_law_abc : Callee P w K mg base 1 "_law_abc" ["k"] spAbc) (F : Fun K "_law_signs" "_law_signs" sLawSigns f fd) : FnOk P w K mg base CX0 2 f fd ["draws"] spSigns := by
  refine F.ok scLawSigns (fun vs H Q E h => ?_) (fun cdv A outer s H vs Q E hr h => ?_)
  · obtain ⟨p, rfl, _⟩ := h
    rfl
  obtain ⟨p, rfl, hD, q⟩ := h
  have hu := hu_of hr
  refine' ⟨_, ?TT, ?RR⟩
  case TT =>
    refine' pss_cons ?x195 ?x196
    case x195 =>
     refine' ps_set (i := 1) scLawSigns.nd rfl (Or.inr rfl) ?x197
     case x197 =>
      refine' pe_callC c_law_take hr rfl ?x198
      case x198 =>
       refine' pa_Name (pv 0) ?x199
       case x199 =>
        refine' pa_Const ?x200 ?x201
        case x200 =>
         exact pe_int
        case x201 =>
         exact pa_nil
    case x196 =>
     refine' pss_one ?x202
     case x202 =>
      refine' ps_ret ?x203
      case x203 =>
       refine' pe_lc (own := [("k", 2)]) (g := gName 2) (by rfl) scLawSigns.nd ?x204 (blkOk_by (own := [("k", 2)]) (N := nLawSigns) (sc := defScope sLawSigns) (by decide +kernel)) (fun _ _ _ _ _ => pg_name (i := 2) scLawSigns.nd rfl (Or.inl rfl)) ?x205 ?x206
       case x204 =>
        refine' pi_range1 rfl T.m_range ?x207
        case x207 =>
         refine' pa_Subscript ?x208 ?x209
         case x208 =>
          refine' pe_ix ix_list ?x210 ?x211 (fun _ _ => rfl)
          case x210 =>
           refine' pe_lst ?x212
           case x212 =>
            refine' pa_Const ?x213 ?x214
            case x213 =>
             exact pe_int
            case x214 =>
             refine' pa_Const ?x215 ?x216
             case x215 =>
              exact pe_int
             case x216 =>
              refine' pa_Const ?x217 ?x218
              case x217 =>
               exact pe_int
              case x218 =>
               refine' pa_Const ?x219 ?x220
               case x219 =>
                exact pe_int
               case x220 =>
                refine' pa_Const ?x221 ?x222
                case x221 =>
                 exact pe_int
                case x222 =>
                 refine' pa_Const ?x223 ?x224
                 case x223 =>
                  exact pe_int
                 case x224 =>
                  exact pa_nil
          case x211 =>
           refine' pe_callC c_law_take hr rfl ?x225
           case x225 =>
            refine' pa_Name (pv 0) ?x226
            case x226 =>
             refine' pa_Const ?x227 ?x228
             case x227 =>
              exact pe_int
             case x228 =>
              exact pa_nil
         case x209 =>
          exact pa_nil
       case x205 =>
        intro _ _ _ _ _
        exact pts_nil
       case x206 =>
        intro _ _ _ _ _
        refine' pe_callC c_law_abc hr rfl ?x229
        case x229 =>
         refine' pa_BinOp ?x230 ?x231
         case x230 =>
          exact (pe_op op_add (pv 1) (pv 2))
         case x231 =>
          exact pa_nil
  case RR =>
    refine ⟨_, rfl, p, 26, rfl, hD, by decide, fun fi H1 f0 f1 hD1 k1 => ?_⟩
    refine ⟨(by show 6 ≤ sizeLine; decide), fun l nl => ?_⟩
    have s2 := same_new nl (.lst [.int 1, .int 2, .int 2, .int 3, .int 5, .int 26])
    refine ⟨_, rfl, p, 6, rfl, hD1.same s2, by decide, fun v H3 v0 v1 hD3 k3 => ?_⟩
    obtain ⟨x, hx, _, hx2⟩ := at_in (xs := [V.int 1, V.int 2, V.int 2, V.int 3, V.int 5, V.int 26]) v0 v1
    obtain ⟨many, rfl, hw0, hw1⟩ : ∃ wd : Int, x = .int wd ∧ 1 ≤ wd ∧ wd ≤ 26 := by
      simp only [List.mem_cons, List.not_mem_nil, or_false] at hx
      rcases hx with rfl | rfl | rfl | rfl | rfl | rfl <;> exact ⟨_, rfl, by decide, by decide⟩
    have nlp : l ≠ p := hD1.ne nl
    refine ⟨l, _, _, _, rfl, rfl, SqL.of (k3 _ _ upd_same nlp), hx2, ?_⟩
    have kk : Kp p H H3 := k1.trans ((s2.kp p).trans k3)
    refine ⟨many, rfl, by omega, by omega, fun D nD => ?_⟩
    have nDp : D ≠ p := hD3.ne nD
    have hHD : H D = none := kk.freeD hD3 nD
    refine lc_range (lo := 0) (n := many.toNat) (fun i H5 => Same H3 H5 ∧ ∃ cs : List Nat, cs.length = i ∧ (∀ c ∈ cs, 97 ≤ c ∧ c ≤ 122) ∧ H5 D = some (.lst ((cs.map sg).map V.str))) ?_ ?_ ?_
    · exact ⟨same_new nD _, [], rfl, (fun c hc => nomatch hc), upd_same⟩
    · rintro i H5 hi ⟨s5, cs, hl, hc, h5⟩
      refine ⟨rfl, ?_⟩
      refine ⟨_, rfl, _, rfl, _, _, rfl, rfl, _, rfl, ?_⟩
      refine ⟨_, h5, by rw [List.length_map, List.length_map]; exact small1000 (by omega), fun b o e => by rw [upd_ne (ne_of_none e nD)]; exact s5 b o e, cs ++ [abcC (fi + (0 + (i : Nat)))], by rw [List.length_append, hl]; rfl, fun c h => ?_, ?_⟩
      · rcases List.mem_append.mp h with h | h
        · exact hc c h
        · rw [List.mem_singleton.mp h]; exact abcC_ok _
      · rw [upd_same, List.map_append, List.map_append]; rfl
    · rintro H5 ⟨s5, cs, hl, hc, h5⟩
      refine q D cs H5 ⟨h5, fun z => ?_, by omega, hc⟩ nDp hHD (hD3.same s5) (kk.trans (s5.kp p))
      rw [z] at hl
      have : ([] : List Nat).length = 0 := rfl
      omega
end
end Lv
set_option Elab.async false
set_option linter.all false
set_option maxRecDepth 100000
namespace L2
open PySem PySem.Spec PyProof.Rows
theorem tabI_ints (n : Nat) (f : Nat → Int) : tabI n f = ((List.range n).map f).map V.int := by rw [tabI, List.map_map]; rfl
/-- the heap but two things -/
def Kp2 (p g : Addr) (H H' : Hp) : Prop := ∀ b o, H b = some o → b ≠ p → b ≠ g → H' b = some o
theorem Kp2.refl (p g : Addr) (H : Hp) : Kp2 p g H H := fun _ _ h _ _ => h
theorem Kp2.trans {p g : Addr} {H H1 H2 : Hp} (a : Kp2 p g H H1) (b : Kp2 p g H1 H2) : Kp2 p g H H2 := fun c o h n m => b c o (a c o h n m) n m
theorem Same.kp2 {H H' : Hp} (s : Same H H') (p g : Addr) : Kp2 p g H H' := fun b o h _ _ => s b o h
def spLens : Sp := fun vs H Q _ => ∃ z : Str, vs = [.str z] ∧ z.length ≤ 200 ∧ ∀ (m : Addr) (H' : Hp), Same H H' → H m = none → H' m = some (.lst (tabI (z.cps.toList.length + 1) (dn z.cps.toList))) → Q (.ref m) H'
/-- what stands at the end of each letter -/
def BefAt (H : Hp) (d : Addr) (xs : List Nat) : Prop := ∃ kvs : List (Key × V), H d = some (.dK kvs) ∧ kvs.length ≤ xs.length ∧ ∀ c : Nat, (bef c xs = none → valV kvs (Sum.inr (sg c)) = none) ∧
  ∀ r, bef c xs = some r → ∃ q, valV kvs (Sum.inr (sg c)) = some (.ref q) ∧ q ≠ d ∧ H q = some (.lst (tabI (r.length + 1) (dn r)))
def spDeed (C P : Addr) : Sp := fun vs H Q _ => ∃ (p g q : Addr) (z : Str) (cs : List Nat), vs = [.ref p, .ref g, .str z, .ref q] ∧ DrawsAt H p ∧ GrowAt C H g z ∧ SignsAt H q cs ∧ q ≠ p ∧ H P = some (.ext (TabP P)) ∧
  ∀ (z' : Str) (H' : Hp), DrawsAt H' p → GrowAt C H' g z' → Kp2 p g H H' → Q (.str z') H'
def spBack (C : Addr) : Sp := fun vs H Q _ => ∃ (g : Addr) (z : Str), vs = [.ref g, .str z] ∧ GrowAt C H g z ∧ 0 < z.length ∧ ∀ H', GrowAt C H' g (undoS z) → Kp g H H' → Q (.bl true) H'
def spLong (P : Addr) : Sp := fun vs H Q _ => ∃ p : Addr, vs = [.ref p] ∧ DrawsAt H p ∧ H P = some (.ext (TabP P)) ∧ ∀ H', DrawsAt H' p → Kp p H H' → Q (.bl true) H'
theorem app_len (z : Str) (c : Nat) : (z ++ sg c).length = z.length + 1 := by rw [len_cps, app_cps, List.length_append, ← len_cps, ← len_cps, len_sg]
end L2
set_option Elab.async false
set_option linter.all false
set_option maxRecDepth 100000
namespace L2
open PySem PySem.Spec PyProof.Rows
section
variable {X : Cx}
def rIndexS : V → List V → Hp → VK → Prop := fun x xs H Q => ∃ (z : Str) (c k : Nat), x = .str z ∧ xs = [.str (sg c)] ∧ nxt z.cps.toList 0 (sg c) = some k ∧ Q (.int (k : Nat)) H
end
def pickS (z : Str) (lo : Option Int) (k : Int) : Str := ⟨((Builtin.Str.strSliceIndices lo none k z.length).filterMap (z.cps[·]?)).toArray⟩
def tStepS (te : TE) : TE := fun σ H Q => te σ H fun x H1 => ∃ z, x = .str z ∧ z.length ≤ sizeLine ∧ ∀ w : Str, (∀ c ∈ w.cps.toList, c ∈ z.cps.toList) → w.length ≤ z.length → Q (.str w) H1
section
variable {X : Cx} {e : Expr} {te : TE}
end
end L2
set_option Elab.async false
set_option linter.all false
set_option maxRecDepth 100000
namespace L2
open PySem PySem.Spec PyProof.Rows
def spRowC : Sp := fun vs H Q _ => ∃ (p q : Addr) (m : Int) (cs : List Nat), vs = [.ref p, .ref q, .int m] ∧ DrawsAt H p ∧ SignsAt H q cs ∧ q ≠ p ∧ 0 ≤ m ∧ m ≤ 80 ∧ ∀ (x : Str) (H' : Hp), IsRow x → x.length ≤ 80 → (x.length : Int) ≤ m → DrawsAt H' p → Kp p H H' → Q (.str x) H'
def hasB (z y : Str) : Bool := rowB y && (fsts z.cps.toList 0 y.cps.toList).isSome
def spHas (K : PySem.W.Frag) (C P : Addr) : Sp := fun vs H Q E => ∃ (g : Addr) (z : Str) (x : V), vs = [.ref g, x] ∧ GrowAt C H g z ∧ spIsLeft2 K P [.str z, x] H Q E
def spGrown (C P : Addr) : Sp := fun vs H Q _ => ∃ z : Str, vs = [.str z] ∧ IsRow z ∧ z.length ≤ 80 ∧ H P = some (.ext (TabP P)) ∧ ∀ (g : Addr) (H' : Hp), H g = none → GrowAt C H' g z → Same H H' → Q (.ref g) H'
def AnsAt (H : Hp) (m q : Addr) (z w : Str) : Prop := H m = some (.lst [.bl (hasB z w), .ref q, .int (mn z.cps.toList), .str z, .bl (hasB z z)]) ∧ H q = some (.lst (tabI (z.cps.toList.length + 1) (dn z.cps.toList)))
def ansD (z w : Str) : PyData := .list [.bool (hasB z w), .list (((List.range (z.cps.toList.length + 1)).map (dn z.cps.toList)).map PyData.int), .int (mn z.cps.toList), .str z, .bool (hasB z z)]
theorem AnsAt.dp {K : PySem.W.Frag} {H : Hp} {m q : Addr} {z w : Str} (h : AnsAt H m q z w) : Dp K H (.ref m) (ansD z w) := by
  obtain ⟨h1, h2⟩ := h
  rw [tabI_ints] at h2
  exact .lst (SqL.of h1) (.cons (.bl _) (.cons (Dp.ints (SqL.of h2)) (.cons (.int _) (.cons (.str _) (.cons (.bl _) .nil)))))
theorem AnsAt.same {H H' : Hp} {m q : Addr} {z w : Str} (h : AnsAt H m q z w) (s : Same H H') : AnsAt H' m q z w := ⟨s _ _ h.1, s _ _ h.2⟩
theorem AnsAt.kp2 {H H' : Hp} {m q p g : Addr} {z w : Str} (h : AnsAt H m q z w) (s : Kp2 p g H H') (n1 : m ≠ p) (n2 : m ≠ g) (n3 : q ≠ p) (n4 : q ≠ g) : AnsAt H' m q z w := ⟨s _ _ h.1 n1 n2, s _ _ h.2 n3 n4⟩
def spAns (C P : Addr) : Sp := fun vs H Q _ => ∃ (g : Addr) (z w : Str), vs = [.ref g, .str w] ∧ GrowAt C H g z ∧ w.length ≤ 80 ∧ H P = some (.ext (TabP P)) ∧ ∀ (m q : Addr) (H' : Hp), Same H H' → H m = none → H q = none → AnsAt H' m q z w → Q (.ref m) H'
def spTab2 (C P : Addr) : Sp := fun vs H Q _ => ∃ (p g : Addr) (z w : Str), vs = [.ref p, .ref g, .str z, .str w] ∧ DrawsAt H p ∧ GrowAt C H g z ∧ w.length ≤ 80 ∧ H P = some (.ext (TabP P)) ∧ ∀ H', DrawsAt H' p → GrowAt C H' g z → Kp2 p g H H' → Q (.bl true) H'
def spOtherw (P : Addr) : Sp := fun vs H Q _ => ∃ (p : Addr) (z : Str), vs = [.ref p, .str z] ∧ DrawsAt H p ∧ IsRow z ∧ z.length ≤ 80 ∧ H P = some (.ext (TabP P)) ∧ ∀ H', DrawsAt H' p → Kp p H H' → Q (.bl true) H'
def takeS (z : Str) (t : Nat) : Str := ⟨(z.cps.toList.take t).toArray⟩
end L2
set_option Elab.async false
set_option linter.all false
set_option maxRecDepth 100000
set_option maxHeartbeats 8000000
namespace Lv
open PySem L2
section
variable {P : Program} {w : World} {K : PySem.W.Frag} {mg : Str → Option Value} {base : Heap} {f : Addr} {fd : FuncData}
abbrev sLawRow : Stmt := top 16
def nLawRow : List Str := ["draws", "signs", "most", "many", "one", "other", "third", "free", "found", "k", "turn"]
theorem scLawRow : FnScope nLawRow ["draws", "signs", "most"] (defScope sLawRow) := ⟨rfl, rfl, rfl, by decide +kernel, rfl, by decide +kernel, by decide +kernel⟩
theorem ok_rowC (T : Glb mg) (c_law_take : Callee P w K mg base 1 "_law_take" ["draws", "many"] spTake) (F : Fun K "_law_row" "_law_row" sLawRow f fd) : FnOk P w K mg base CX0 2 f fd ["draws", "signs", "most"] spRowC := by
  refine F.ok scLawRow (fun vs H Q E h => ?_) (fun cdv A outer s H vs Q E hr h => ?_)
  · obtain ⟨p, q, m, cs, rfl, _⟩ := h
    rfl
  obtain ⟨p, q0, m, cs, rfl, hD, hS, nqp, m0, m1, q⟩ := h
  have hu := hu_of hr
  refine' ⟨_, ?TT, ?RR⟩
  case TT =>
    refine' pss_cons ?x1 ?x2
    case x1 =>
     refine' ps_set (i := 3) scLawRow.nd rfl (Or.inl rfl) ?x3
     case x3 =>
      refine' pe_callB (call_min2 rfl) rfl T.m_min (by decide +kernel) ?x4
      case x4 =>
       refine' pa_Name (pv 2) ?x5
       case x5 =>
        refine' pa_Call ?x6 ?x7
        case x6 =>
         refine' pe_callC c_law_take hr rfl ?x8
         case x8 =>
          refine' pa_Name (pv 0) ?x9
          case x9 =>
           refine' pa_Const ?x10 ?x11
           case x10 =>
            exact pe_int
           case x11 =>
            exact pa_nil
        case x7 =>
         exact pa_nil
    case x2 =>
     refine' pss_cons ?x12 ?x13
     case x12 =>
      refine' ps_cut ?x14
      case x14 =>
       refine' ps_if ?x15 ?x16 ?x17
       case x15 =>
        refine' pt_cmpR op_eq ?x18 ?x19 (nomark _)
        case x18 =>
         refine' pe_callC c_law_take hr rfl ?x20
         case x20 =>
          refine' pa_Name (pv 0) ?x21
          case x21 =>
           refine' pa_Const ?x22 ?x23
           case x22 =>
            exact pe_int
           case x23 =>
            exact pa_nil
        case x19 =>
         exact pe_int
       case x16 =>
        refine' pss_one ?x24
        case x24 =>
         refine' ps_set (i := 3) scLawRow.nd rfl (Or.inl rfl) ?x25
         case x25 =>
          refine' pe_ix ix_list ?x26 ?x27 (fun _ _ => rfl)
          case x26 =>
           refine' pe_lst ?x28
           case x28 =>
            refine' pa_Name (pv 2) ?x29
            case x29 =>
             refine' pa_Call ?x30 ?x31
             case x30 =>
              refine' pe_callC c_law_take hr rfl ?x32
              case x32 =>
               refine' pa_Name (pv 0) ?x33
               case x33 =>
                refine' pa_BinOp ?x34 ?x35
                case x34 =>
                 refine' pe_op op_add (pv 2) ?x36
                 case x36 =>
                  exact pe_int
                case x35 =>
                 exact pa_nil
             case x31 =>
              exact pa_nil
          case x27 =>
           refine' pe_callC c_law_take hr rfl ?x37
           case x37 =>
            refine' pa_Name (pv 0) ?x38
            case x38 =>
             refine' pa_Const ?x39 ?x40
             case x39 =>
              exact pe_int
             case x40 =>
              exact pa_nil
       case x17 =>
        exact pss_nil
     case x13 =>
      refine' pss_cons ?x41 ?x42
      case x41 =>
       refine' ps_set (i := 4) scLawRow.nd rfl (Or.inl rfl) ?x43
       case x43 =>
        refine' pe_callC c_law_take hr rfl ?x44
        case x44 =>
         refine' pa_Name (pv 0) ?x45
         case x45 =>
          refine' pa_Const ?x46 ?x47
          case x46 =>
           exact pe_int
          case x47 =>
           exact pa_nil
      case x42 =>
       refine' pss_cons ?x48 ?x49
       case x48 =>
        refine' ps_set (i := 5) scLawRow.nd rfl (Or.inl rfl) ?x50
        case x50 =>
         refine' pe_op op_add ?x51 ?x52
         case x51 =>
          exact pe_int
         case x52 =>
          refine' pe_callC c_law_take hr rfl ?x53
          case x53 =>
           refine' pa_Name (pv 0) ?x54
           case x54 =>
            refine' pa_Const ?x55 ?x56
            case x55 =>
             exact pe_int
            case x56 =>
             exact pa_nil
       case x49 =>
        refine' pss_cons ?x57 ?x58
        case x57 =>
         refine' ps_set (i := 6) scLawRow.nd rfl (Or.inl rfl) ?x59
         case x59 =>
          refine' pe_callC c_law_take hr rfl ?x60
          case x60 =>
           refine' pa_Name (pv 0) ?x61
           case x61 =>
            refine' pa_Const ?x62 ?x63
            case x62 =>
             exact pe_int
            case x63 =>
             exact pa_nil
        case x58 =>
         refine' pss_cons ?x64 ?x65
         case x64 =>
          refine' ps_set (i := 7) scLawRow.nd rfl (Or.inl rfl) ?x66
          case x66 =>
           refine' pe_cmpR op_eq ?x67 ?x68 (nomark _)
           case x67 =>
            refine' pe_callC c_law_take hr rfl ?x69
            case x69 =>
             refine' pa_Name (pv 0) ?x70
             case x70 =>
              refine' pa_Const ?x71 ?x72
              case x71 =>
               exact pe_int
              case x72 =>
               exact pa_nil
           case x68 =>
            exact pe_int
         case x65 =>
          refine' pss_cons ?x73 ?x74
          case x73 =>
           refine' ps_set (i := 8) scLawRow.nd rfl (Or.inl rfl) ?x75
           case x75 =>
            exact pe_str
          case x74 =>
           refine' pss_cons ?x76 ?x77
           case x76 =>
            refine' ps_for PassesOwn.never rfl ?x78 (pg_name (i := 9) scLawRow.nd rfl (Or.inl rfl)) ?x79
            case x78 =>
             refine' pi_range1 rfl T.m_range ?x80
             case x80 =>
              refine' pa_Name (pv 3) ?x81
              case x81 =>
               exact pa_nil
            case x79 =>
             refine' pss_cons ?x82 ?x83
             case x82 =>
              refine' ps_set (i := 10) scLawRow.nd rfl (Or.inl rfl) ?x84
              case x84 =>
               refine' pe_op op_mod ?x85 ?x86
               case x85 =>
                refine' pe_op op_add ?x87 (pv 6)
                case x87 =>
                 refine' pe_op op_add ?x88 ?x89
                 case x88 =>
                  refine' pe_op op_add ?x90 ?x91
                  case x90 =>
                   refine' pe_op op_mul ?x92 (pv 4)
                   case x92 =>
                    exact (pe_op op_mul (pv 9) (pv 9))
                  case x91 =>
                   exact (pe_op op_mul (pv 9) (pv 5))
                 case x89 =>
                  refine' pe_op op_mul ?x93 ?x94
                  case x93 =>
                   refine' pe_op op_fdiv (pv 9) ?x95
                   case x95 =>
                    exact pe_int
                  case x94 =>
                   exact pe_int
               case x86 =>
                exact pe_int
             case x83 =>
              refine' pss_cons ?x96 ?x97
              case x96 =>
               refine' ps_cut ?x98
               case x98 =>
                refine' ps_if ?x99 ?x100 ?x101
                case x99 =>
                 refine' pt_cut ?x102
                 case x102 =>
                  refine' PW.pt ?x103
                  case x103 =>
                   refine' pw_or ?x104 ?x105
                   case x104 =>
                    refine' pt_cmpR op_lt (pv 3) ?x106 (nomark _)
                    case x106 =>
                     exact pe_int
                   case x105 =>
                    refine' pw_or1 ?x107
                    case x107 =>
                     refine' PW.pt ?x108
                     case x108 =>
                      refine' pw_and ?x109 ?x110
                      case x109 =>
                       exact (pt_val (pv 7))
                      case x110 =>
                       refine' pw_and1 ?x111
                       case x111 =>
                        refine' pt_cmpR op_gt ?x112 ?x113 (nomark _)
                        case x112 =>
                         refine' pe_callB call_len_seq rfl T.m_len PySem.boot_len ?x114
                         case x114 =>
                          refine' pa_Name (pv 0) ?x115
                          case x115 =>
                           exact pa_nil
                        case x113 =>
                         exact pe_int
                case x100 =>
                 refine' pss_one ?x116
                 case x116 =>
                  refine' ps_set (i := 10) scLawRow.nd rfl (Or.inl rfl) ?x117
                  case x117 =>
                   refine' pe_callC c_law_take hr rfl ?x118
                   case x118 =>
                    refine' pa_Name (pv 0) ?x119
                    case x119 =>
                     refine' pa_Const ?x120 ?x121
                     case x120 =>
                      exact pe_int
                     case x121 =>
                      exact pa_nil
                case x101 =>
                 exact pss_nil
              case x97 =>
               refine' pss_one ?x122
               case x122 =>
                refine' ps_set (i := 8) scLawRow.nd rfl (Or.inl rfl) ?x123
                case x123 =>
                 refine' pe_op op_add_str (pv 8) ?x124
                 case x124 =>
                  refine' pe_ix ix_list (pv 1) ?x125 (fun _ _ => rfl)
                  case x125 =>
                   refine' pe_op op_mod (pv 10) ?x126
                   case x126 =>
                    refine' pe_callB call_len_seq rfl T.m_len PySem.boot_len ?x127
                    case x127 =>
                     refine' pa_Name (pv 1) ?x128
                     case x128 =>
                      exact pa_nil
           case x77 =>
            refine' pss_one ?x129
            case x129 =>
             exact (ps_ret (pv 8))
  case RR =>
    refine ⟨_, rfl, _, rfl, p, 10, rfl, hD, by decide, fun v H1 v0 v1 hD1 k1 => ?_⟩
    refine ⟨_, _, rfl, ?_⟩
    refine ⟨fun σ' H' => ∃ n : Int, σ' = [some (.ref p), some (.ref q0), some (.int m), some (.int n), none, none, none, none, none, none, none] ∧ 0 ≤ n ∧ n ≤ m ∧ DrawsAt H' p ∧ Kp p H H', ?_, ?_⟩
    · refine ⟨_, rfl, p, 8, rfl, hD1, by decide, fun v2 H2 a2 b2 hD2 k2 => ?_⟩
      refine ⟨rfl, _, rfl, ?_⟩
      refine ite2 (fun _ => ?_) (fun _ => ?_)
      · refine ⟨_, rfl, _, rfl, _, rfl, _, _, rfl, rfl, p, _, rfl, hD2, by omega, fun v3 H3 a3 b3 hD3 k3 => ?_⟩
        refine ⟨(by show 2 ≤ sizeLine; decide), fun l nl => ?_⟩
        have s4 := same_new nl (.lst [.int m, .int v3])
        refine ⟨_, rfl, p, 2, rfl, hD3.same s4, by decide, fun v4 H4 a4 b4 hD4 k4 => ?_⟩
        obtain ⟨x, hx, _, hx2⟩ := at_in (xs := [V.int m, V.int v3]) a4 b4
        obtain ⟨n, rfl, n0, n1⟩ : ∃ n : Int, x = .int n ∧ 0 ≤ n ∧ n ≤ m := by
          simp only [List.mem_cons, List.not_mem_nil, or_false] at hx
          rcases hx with rfl | rfl
          · exact ⟨_, rfl, m0, Int.le_refl _⟩
          · exact ⟨_, rfl, a3, by omega⟩
        refine ⟨l, _, _, _, rfl, rfl, SqL.of (k4 _ _ upd_same (hD3.ne nl)), hx2, ?_⟩
        exact ⟨n, rfl, n0, n1, hD4, (k1.trans k2).trans (k3.trans ((s4.kp p).trans k4))⟩
      · refine ⟨_, rfl, ?_, ?_, hD2, k1.trans k2⟩
        · split <;> omega
        · split <;> omega
    rintro σ' H2 ⟨n, rfl, n0, n1, hD2, k2⟩
    refine ⟨_, rfl, p, 1000, rfl, hD2, by decide, fun one H3 o0 o1 hD3 k3 => ?_⟩
    refine ⟨_, rfl, p, 1000, rfl, hD3, by decide, fun oth H4 o2 o3 hD4 k4 => ?_⟩
    refine ⟨_, _, rfl, rfl, ?_⟩
    refine ⟨_, rfl, p, 1000, rfl, hD4, by decide, fun thi H5 t0 t1 hD5 k5 => ?_⟩
    refine ⟨_, rfl, p, 3, rfl, hD5, by decide, fun fr H6 f0 f1 hD6 k6 => ?_⟩
    refine ⟨rfl, ?_⟩
    generalize decide (V.int fr = V.int 1) = free
    have kk : Kp p H H6 := (k2.trans k3).trans ((k4.trans k5).trans k6)
    refine ⟨_, rfl, n, rfl, by omega, by omega, ?_⟩
    refine for_range (lo := 0) (n := n.toNat) (fun t σ' H' => ∃ (x : Str) (v9 v10 : Option V), σ' = [some (.ref p), some (.ref q0), some (.int m), some (.int n), some (.int one), some (.int (1 + oth)), some (.int thi), some (.bl free), some (.str x), v9, v10] ∧ IsRow x ∧ x.length = t ∧ DrawsAt H' p ∧ Kp p H H') ?_ ?_ ?_
    · exact ⟨_, none, none, rfl, (fun c hc => nomatch hc), rfl, hD6, kk⟩
    · rintro t σ' H7 ht ⟨x, v9, v10, rfl, hx, hl, hD7, k7⟩
      have ei : (0 : Int) + (t : Nat) = ((t : Nat) : Int) := by omega
      rw [ei]
      refine ⟨_, rfl, _, rfl, _, _, rfl, rfl, .inl ⟨by omega, by omega⟩, _, rfl, _, _, rfl, rfl, .inr ⟨by omega, by omega⟩, _, rfl, _, rfl, _, _, rfl, rfl, .inl ⟨by omega, by omega⟩, _, _, rfl, rfl, ?_⟩
      refine ⟨_, rfl, _, _, rfl, rfl, ⟨by decide, by decide⟩, _, _, rfl, rfl, .inr ⟨by decide, by decide⟩, _, _, rfl, rfl, _, rfl, _, _, rfl, rfl, _, _, rfl, rfl, (by show (0 : Int) < 9973; decide), ?_⟩
      refine ⟨fun σ' H' => ∃ tu : Int, σ' = [some (.ref p), some (.ref q0), some (.int m), some (.int n), some (.int one), some (.int (1 + oth)), some (.int thi), some (.bl free), some (.str x), some (.int (t : Nat)), some (.int tu)] ∧ DrawsAt H' p ∧ Kp p H H', ?_, ?_⟩
      · refine ⟨fun b H' => H' = H7, ?_, ?_⟩
        · refine ⟨_, rfl, _, _, rfl, rfl, _, rfl, ?_⟩
          refine ite2 (fun _ => rfl) (fun _ => ?_)
          refine ⟨_, rfl, _, rfl, ?_⟩
          refine ite2 (fun _ => ?_) (fun _ => rfl)
          obtain ⟨ds, hds, _⟩ := hD7.ex
          exact ⟨_, rfl, p, _, rfl, .inl (SqL.of hds), _, _, rfl, rfl, _, rfl, rfl⟩
        · rintro b H' rfl
          refine ite2 (fun _ => ?_) (fun _ => ?_)
          · refine ⟨_, rfl, p, 1000, rfl, hD7, by decide, fun tu H8 _ _ hD8 k8 => ?_⟩
            exact ⟨tu, rfl, hD8, k7.trans k8⟩
          · exact ⟨_, rfl, hD7, k7⟩
      · rintro σ' H8 ⟨tu, rfl, hD8, k8⟩
        have hS8 := hS.kp k8 nqp
        have hlen : (((cs.map sg).map V.str).length : Int) = (cs.length : Int) := by rw [List.length_map, List.length_map]
        have hpos := hS.pos
        have h0 : 0 ≤ tu % (((cs.map sg).map V.str).length : Int) := Int.emod_nonneg _ (by rw [hlen]; omega)
        have h1 : tu % (((cs.map sg).map V.str).length : Int) < cs.length := by
          have := Int.emod_lt_of_pos tu (b := (((cs.map sg).map V.str).length : Int)) (by rw [hlen]; omega)
          rw [hlen] at this ⊢; exact this
        obtain ⟨c, hc, hat⟩ := sgs_at' h0 h1
        refine ⟨_, rfl, _, rfl, _, rfl, _, rfl, q0, _, rfl, .inl (SqL.of hS8.at_), _, _, rfl, rfl, by rw [hlen]; omega, q0, _, _, _, rfl, rfl, SqL.of hS8.at_, hat, ?_⟩
        refine ⟨_, _, rfl, rfl, by rw [len_sg]; exact small80 (by omega), ?_⟩
        exact ⟨x ++ sg c, _, _, rfl, hx.app (row_sg (hS.ok c hc)), by rw [app_len, hl], hD8, k8⟩
    · rintro σ' H7 ⟨x, v9, v10, rfl, hx, hl, hD7, k7⟩
      exact ⟨_, rfl, q x H7 hx (by omega) (by omega) hD7 k7⟩
end
end Lv
set_option Elab.async false
set_option linter.all false
set_option maxRecDepth 100000
namespace L2
open PySem PySem.Spec PyProof.Rows
/-- what an element knows of the def around it -/
structure Out (X : Cx) (σ : St) (H : Hp) (h : Heap) : Prop where
  hok : HOk X.prog X.w H h
  kin : X.K.In h
  cel : ∀ (i : Nat) (y : Str) (v : V), X.N[i]? = some y → σ[i]? = some (some v) → X.env.scope.names.lookup y = some .cell → ∃ u c, RelV v u ∧ X.env.cells.lookup y = some c ∧ h.IsCell c (some u)
theorem Out.kept {X : Cx} {σ : St} {H : Hp} {h h' : Heap} (O : Out X σ H h) (k : ∀ b o, h.get? b = some o → h'.get? b = some o) : Out X σ H h' :=
  ⟨O.hok.kept k, fun b o e => k b o (O.kin b o e), fun i y v h1 h2 h3 => let ⟨u, c, r, e, o, ho, hd⟩ := O.cel i y v h1 h2 h3; ⟨u, c, r, e, o, k _ _ ho, hd⟩⟩
theorem Inv.out {X : Cx} {pins : List (Addr × Obj)} {σ : St} {H : Hp} {s : Shared} {it : Addr} {h' : Heap} (I : Inv X pins σ H s) (f : FpOk X pins H it) (k : ∀ b o, b ≠ it → s.heap.get? b = some o → h'.get? b = some o) : Out X σ H h' := by
  obtain ⟨f0, f1, f2, f3, f4, f5⟩ := f
  have nit : ∀ b u, H b = some u → b ≠ it := fun b u e z => by rw [z, f0] at e; cases e
  refine ⟨fun b u e => (I.hok b u e).stay (fun c v hc q => k c v ?_ q) (fun _ q => q) fun _ _ q => q, fun b o e => k b o (fun z => ?_) (I.kIn b o e), fun i y v h1 h2 h3 => ?_⟩
  · rcases hc with rfl | hc
    · exact nit _ _ e
    · exact nit _ _ hc
  · subst z
    rcases f3 with f3 | f3
    · exact I.ok.noex b o (I.ok.mod.kin b o e) f3
    · have := Heap.lt_size (I.ok.bs b o (I.ok.mod.kin b o e)).1
      exact absurd this (Nat.not_lt.mpr f3)
  · obtain ⟨m, _, hl⟩ := I.loc
    obtain ⟨u, r, l⟩ := hl i y v h1 h2 (.inr (.inl h3))
    rcases l with ⟨hk, _⟩ | ⟨_, c, hc, o, ho, hd⟩
    · have hk' : X.env.scope.names.lookup y = some .local := hk
      rw [h3] at hk'; cases hk'
    · exact ⟨u, c, r, hc, o, k _ _ (f4 y c hc) ho, hd⟩
/-- locals of an element -/
abbrev LV := Str → Option V
abbrev TG2 := LV → St → Hp → (V → Prop) → Prop
/-- an element's rule -/
def GE (X : Cx) (scope : Scope) (cl : List (Str × Addr)) (U : Nat) (e : Expr) (t : TG2) : Prop :=
  ∀ (A' : Around) (E' : Value → Shared → Prop) (C : Addr) (code : Value) (s₂ : Shared) (m₂ : Str → Option Value) (lv : LV) (σ : St) (H : Hp) (R : V → Prop), A'.handled = none → A'.units ≤ U → Out X σ H s₂.heap → s₂.heap.Ns C m₂ → (∀ y v, lv y = some v → ∃ u, RelV v u ∧ m₂ y = some u) → t lv σ H R →
    wpAny (model X.prog X.w) A' (eval e (genEnv scope cl C code builtinsNs X.env)) (fun y s₃ => (∃ v, RelV v y ∧ R v) ∧ Keeps s₂ s₃) E' s₂
def gLoc (x : Str) : TG2 := fun lv _ _ R => ∃ v, lv x = some v ∧ R v
def gFree (i : Nat) : TG2 := fun _ σ _ R => ∃ v, σ[i]? = some (some v) ∧ R v
def gInt (n : Int) : TG2 := fun _ _ _ R => R (.int n)
def gOp (r : V → V → Hp → (V → Prop) → Prop) (a b : TG2) : TG2 := fun lv σ H R => a lv σ H fun x => b lv σ H fun y => r x y H R
section
variable {X : Cx} {scope : Scope} {cl : List (Str × Addr)} {U : Nat} {a b : Expr} {ta tb : TG2}
theorem Keeps_refl2 (s : Shared) : Keeps s s := ⟨s.heap, s.toks, rfl, fun _ _ e => e⟩
theorem Keeps_tok (s : Shared) (t : Nat) : Keeps s { s with toks := t } := ⟨s.heap, t, rfl, fun _ _ e => e⟩
theorem Keeps_trans2 {s s1 s2 : Shared} (a : Keeps s s1) (b : Keeps s1 s2) : Keeps s s2 := by
  obtain ⟨h1, t1, rfl, k1⟩ := a
  obtain ⟨h2, t2, rfl, k2⟩ := b
  exact ⟨h2, t2, rfl, fun b o e => k2 b o (k1 b o e)⟩
theorem ge_loc {x : Str} {pos : Pos} (hx : scope.names.lookup x = some .local := by rfl) (hkind : scope.kind = .function := by rfl) (hd : (x == ("__debug__" : Str)) = false := by decide) : GE X scope cl U (.Name x pos) (gLoc x) := by
  intro A' E' C code s₂ m₂ lv σ H R hA hU O hn hl ⟨v, hv, r⟩
  obtain ⟨u, ru, hu⟩ := hl x v hv
  exact wpAny_Name (wpAny_loadName_local (m := m₂) hkind hx hn hu ⟨⟨v, ru, r⟩, Keeps_refl2 _⟩) hd
theorem ge_free {i : Nat} {y : Str} {pos : Pos} (hN : X.N[i]? = some y := by rfl) (hk : X.env.scope.names.lookup y = some .cell := by rfl) (hcl : cl.lookup y = X.env.cells.lookup y := by rfl) (hf : scope.names.lookup y = some .free := by rfl) (hkind : scope.kind = .function := by rfl)
    (hd : (y == ("__debug__" : Str)) = false := by decide) (hc : (y == ("__classdict__" : Str)) = false := by decide) : GE X scope cl U (.Name y pos) (gFree i) := by
  intro A' E' C code s₂ m₂ lv σ H R hA hU O hn hl ⟨v, hv, r⟩
  obtain ⟨u, c, ru, e, hcell⟩ := O.cel i y v hN hv hk
  exact wpAny_Name (wpAny_loadName_free hkind hf (by show cl.lookup y = some c; rw [hcl, e]) hcell ⟨⟨v, ru, r⟩, Keeps_refl2 _⟩ hc) hd
theorem ge_int {n : Int} {k : Nat} {pos : Pos} : GE X scope cl U (.Constant (.int n) k pos) (gInt n) := by
  intro A' E' C code s₂ m₂ lv σ H R hA hU O hn hl r
  exact wpAny_Constant_int ⟨⟨.int n, ⟨_, rfl⟩, r⟩, Keeps_tok _ _⟩
/-- two parts, one behind the other -/
theorem ge_two {f : Value → Value → Sem Value} {r : V → V → Hp → (V → Prop) → Prop} {A' : Around} {E' : Value → Shared → Prop} {C : Addr} {code : Value} {s₂ : Shared} {m₂ : Str → Option Value} {lv : LV} {σ : St} {H : Hp} {R : V → Prop}
    (ha : GE X scope cl U a ta) (hb : GE X scope cl U b tb) (hA : A'.handled = none) (hU : A'.units ≤ U) (O : Out X σ H s₂.heap) (hn : s₂.heap.Ns C m₂) (hl : ∀ y v, lv y = some v → ∃ u, RelV v u ∧ m₂ y = some u) (h : gOp r ta tb lv σ H R)
    (ho : ∀ (s : Shared) (x y : V) (v u : Value), Out X σ H s.heap → RelV x v → RelV y u → r x y H R → wpAny (model X.prog X.w) A' (f v u) (fun y s₃ => (∃ v, RelV v y ∧ R v) ∧ Keeps s s₃) E' s) :
    wpAny (model X.prog X.w) A' (eval a (genEnv scope cl C code builtinsNs X.env)) (fun v s1 => wpAny (model X.prog X.w) A' (eval b (genEnv scope cl C code builtinsNs X.env)) (fun u s2 => wpAny (model X.prog X.w) A' (f v u) (fun y s₃ => (∃ v, RelV v y ∧ R v) ∧ Keeps s₂ s₃) E' s2) E' s1) E' s₂ := by
  refine wpAny_mono (ha A' E' C code s₂ m₂ lv σ H _ hA hU O hn hl h) (fun v s1 h1 => ?_) fun _ _ e => e
  obtain ⟨⟨x, rx, q1⟩, K1⟩ := h1
  obtain ⟨h1, t1, rfl, k1⟩ := id K1
  refine wpAny_mono (hb A' E' C code _ m₂ lv σ H _ hA hU (O.kept k1) (hn.keeps k1) hl q1) (fun u s2 h2 => ?_) fun _ _ e => e
  obtain ⟨⟨y, ry, q2⟩, K2⟩ := h2
  obtain ⟨h2, t2, rfl, k2⟩ := id K2
  exact wpAny_mono (ho _ x y v u ((O.kept k1).kept k2) rx ry q2) (fun w s3 h3 => ⟨h3.1, Keeps_trans2 (Keeps_trans2 K1 K2) h3.2⟩) fun _ _ e => e
def gLtS : V → V → Hp → (V → Prop) → Prop := fun x y _ R => ∃ i j, x = .str i ∧ y = .str j ∧ R (.bl (decide (i.cps.toList < j.cps.toList)))
theorem ge_ltS {pos : Pos} (ha : GE X scope cl U a ta) (hb : GE X scope cl U b tb) (hm : behindInMarks .Lt b = false := by exact nomark _) : GE X scope cl U (.Compare a [.Lt] [b] pos) (gOp gLtS ta tb) := by
  intro A' E' C code s₂ m₂ lv σ H R hA hU O hn hl h
  refine wpAny_Compare1 (ge_two ha hb hA hU O hn hl h fun s x y v u O' rx ry q => ?_) hm
  obtain ⟨i, j, rfl, rfl, q⟩ := q
  obtain ⟨t, rfl⟩ := rx
  obtain ⟨t', rfl⟩ := ry
  exact PySem.P.lt_str ⟨⟨.bl _, rfl, q⟩, Keeps_tok _ _⟩
def gAdd : V → V → Hp → (V → Prop) → Prop := fun x y _ R => ∃ i j, x = .int i ∧ y = .int j ∧ R (.int (i + j))
theorem ge_add {pos : Pos} (ha : GE X scope cl U a ta) (hb : GE X scope cl U b tb) : GE X scope cl U (.BinOp a .Add b pos) (gOp gAdd ta tb) := by
  intro A' E' C code s₂ m₂ lv σ H R hA hU O hn hl h
  refine wpAny_BinOp (ge_two ha hb hA hU O hn hl h fun s x y v u O' rx ry q => ?_)
  obtain ⟨i, j, rfl, rfl, q⟩ := q
  obtain ⟨t, rfl⟩ := rx
  obtain ⟨t', rfl⟩ := ry
  exact add_int ⟨⟨.int _, ⟨_, rfl⟩, q⟩, Keeps_tok _ _⟩
def gIn : V → V → Hp → (V → Prop) → Prop := fun x y H R => ∃ c : Nat, x = .str (sg c) ∧ ((∃ z, y = .str z ∧ R (.bl (decide (c ∈ z.cps.toList)))) ∨ ∃ d kvs, y = .ref d ∧ Rd H d (.dK kvs) ∧ R (.bl (valV kvs (Sum.inr (sg c))).isSome))
theorem ge_in {pos : Pos} (ha : GE X scope cl U a ta) (hb : GE X scope cl U b tb) (hm : behindInMarks .In b = false := by rfl) : GE X scope cl U (.Compare a [.In] [b] pos) (gOp gIn ta tb) := by
  intro A' E' C code s₂ m₂ lv σ H R hA hU O hn hl h
  refine wpAny_Compare1 (ge_two ha hb hA hU O hn hl h fun s x y v u O' rx ry q => ?_) hm
  obtain ⟨c, rfl, ⟨z, rfl, q⟩ | ⟨d, kvs, rfl, hd, q⟩⟩ := q
  · obtain ⟨t, rfl⟩ := rx
    obtain ⟨t', rfl⟩ := ry
    refine PyProof.Rows.in_str ⟨⟨.bl _, rfl, ?_⟩, Keeps_tok _ _⟩
    rw [← PySem.StrLaws.found_one z c] at q
    exact q
  · cases ry
    obtain ⟨z, hs, vs, rel, dd⟩ := dk_rd O'.hok hd
    have rk : RelV (kV (Sum.inr (sg c))) v := rx
    refine wpAny_in_of (kV_is rk) hs dd.mapOf ?_
    rw [← (rel.val (Sum.inr (sg c))).isSome_eq]
    exact ⟨⟨.bl _, rfl, q⟩, Keeps_tok _ _⟩
def gIxS : V → V → Hp → (V → Prop) → Prop := fun x y _ R => ∃ z i c, x = .str z ∧ y = .int i ∧ z.length ≤ sizeLine ∧ atI z.cps.toList i = some c ∧ R (.str (sg c))
theorem ge_ixS {pos : Pos} (ha : GE X scope cl U a ta) (hb : GE X scope cl U b tb) (hs : PlainIx b) : GE X scope cl U (.Subscript a b pos) (gOp gIxS ta tb) := by
  intro A' E' C code s₂ m₂ lv σ H R hA hU O hn hl h
  refine Subscript_ (ge_two (f := subscriptTail a b) ha hb hA hU O hn hl h fun s x y v u O' rx ry q => ?_)
  obtain ⟨z, i, c, rfl, rfl, hz, he, q⟩ := q
  obtain ⟨t, rfl⟩ := rx
  obtain ⟨t', rfl⟩ := ry
  obtain ⟨j, h1, h2, h3, h4, h5⟩ := atI_get he
  have hl : z.cps.toList.length = z.length := by simp [Str.length]
  rw [hl] at h1 h4 h5
  have hn := line63
  exact tail_any (typeIs_str s z t) slot_str_getitem.lookup (getItem_str (c := c) (by
    have e1 : decide (i < -(2 ^ 63 : Int)) = false := decide_eq_false (by omega)
    have e2 : decide (i ≥ 2 ^ 63) = false := decide_eq_false (by omega)
    rw [e1, e2, Bool.or_false]) (by rw [h1]; simpa using h2) ⟨⟨.str ⟨#[c]⟩, ⟨_, rfl⟩, q⟩, Keeps_tok _ _⟩) (hs _ _)
def gIxL (K : PySem.W.Frag) : V → V → Hp → (V → Prop) → Prop := fun x y H R => ∃ p xs i v, x = .ref p ∧ y = .int i ∧ SqL K H p xs ∧ 0 ≤ i ∧ atI xs i = some v ∧ R v
theorem Out.list {σ : St} {H : Hp} {h : Heap} {l : Addr} {xs : List V} (O : Out X σ H h) (q : SqL X.K H l xs) : ∃ its : List Value, Vals xs its ∧ PlainL h l its.toArray ∧ xs.length ≤ sizeLine := by
  rcases q with q | ⟨o, its, n, hk, hc, hd, hs, hz, r⟩
  · obtain ⟨z, its, n, r, e⟩ := q.ok O.hok
    exact ⟨its, r, ⟨_, n, e, rfl, rfl, rfl⟩, z⟩
  · refine ⟨its.toList, r, ⟨o, n, O.kin l o hk, hc, hd, by simpa using hs⟩, ?_⟩
    have e := r.length
    simp only [Array.length_toList] at e
    omega
end
end L2
set_option Elab.async false
set_option linter.all false
set_option maxRecDepth 100000
namespace L2
open PySem PySem.Spec PyProof.Rows
abbrev TIG := St → Hp → (Nat → (Nat → Option V) → Hp → Prop) → Prop
def PIG (X : Cx) (iter : Expr) (ti : TIG) : Prop :=
  ∀ (pins : List (Addr × Obj)) (s : Shared) (σ : St) (H : Hp) (R : Nat → (Nat → Option V) → Hp → Prop), Inv X pins σ H s → ti σ H R →
    wpAny (model X.prog X.w) X.A (eval iter X.env) (fun xv s1 => wpAny (model X.prog X.w) X.A (pyIter xv) (fun it s2 => ∃ (I : Addr) (fp : List Addr) (n : Nat) (Pv : Nat → Value → Prop) (St₀ : Nat → Heap → Prop) (vi : Nat → Option V) (H1 : Hp),
      it = .ref I ∧ Inv X pins σ H1 s2 ∧ FpOk X pins H1 I ∧ (∀ b ∈ fp, b < s2.heap.objs.size) ∧ (∀ b ∈ fp, ∀ P, H1 b = some (.ext (TabP P)) → False) ∧ (∀ A' : Around, A'.handled = none → Walks X.prog X.w A' I fp [I] n Pv St₀) ∧ St₀ 0 s2.heap ∧ (∀ i u, Pv i u → ∃ y, vi i = some y ∧ RelV y u) ∧ R n vi H1) X.xe s1) X.xe s
abbrev lv1 (x : Str) (v : V) : LV := fun y => if y = x then some v else none
def tAllG (P : Addr) (ti : TIG) (x : Str) (t : TG2) : TE := fun σ H Q => ti σ H fun n vi H1 => H1 P = some (.ext (TabP P)) ∧ ∃ pr : Nat → Bool, (∀ i y, i < n → vi i = some y → t (lv1 x y) σ H1 fun r => r = .bl (pr i)) ∧ Q (.bl ((List.range n).all pr)) H1
section
variable {X : Cx} {elt iter : Expr} {ti : TIG} {t : TG2} {x : Str} {px p gpos pos : Pos} {scope : Scope} {cl : List (Str × Addr)} {c P : Addr} {k : Nat}
theorem pe_allG (hg : Gl X "all") (hm : X.mg "all" = none) (hr : Room k X.A) (hcode : X.env.code = .ref c) (ck : CodeK X.K c P) (bm : BModB X.base X.mg) (hi : PIG X iter ti)
    (hel : GE X scope cl (X.A.units + 8) elt t)
    (hco : scope.isCoroutine = false := by rfl) (hclos : closureFor scope X.env = pure cl := by rfl) (hcell : ∀ y ∈ scope.names, y.2 ≠ .cell := by decide) (h0 : scope.names.lookup (".0" : Str) = some NameKind.local := by rfl)
    (hx : scope.names.lookup x = some .local := by rfl) (hkind : scope.kind = .function := by rfl) (hs : ∀ y, genFold iter X.env y = pure y := by intro _; rfl)
    (he : starEach [Expr.GeneratorExp elt [⟨.Name x px, iter, [], 0⟩] scope gpos] X.env = [(false, eval (.GeneratorExp elt [⟨.Name x px, iter, [], 0⟩] scope gpos) X.env)] := by rfl) :
    PE X (.Call (.Name "all" p) [.GeneratorExp elt [⟨.Name x px, iter, [], 0⟩] scope gpos] [] pos) (tAllG P ti x t) := by
  intro pins s σ H Q I h
  refine wpAny_Call_Name_kw (ld_blt I hg hm (u := .builtin "all") (by decide +kernel) ?_)
  refine PyProof.Rows.callWith_builtin1 ?_ he rfl
  rw [he]
  show wpAny _ _ (spliced ((false, eval _ X.env) :: backTo pos [])) _ _ s
  refine Calls.spliced_cons (wpAny_GeneratorExp_walksQD hr.hd hco hclos hcell h0 hx hkind hr.depth (wpAny_mono (hi pins s σ H _ I h) (fun xv s1 h1 => wpAny_mono h1 (fun it s2 h2 => ?_) fun _ _ e => e) fun _ _ e => e) hs)
  obtain ⟨J, fp, n, Pv, St₀, vi, H1, rfl, I2, fj, hfp, hext, W, hst, hv, hP, pr, ht, q⟩ := h2
  refine ⟨I2.nolimit, ?_⟩
  obtain ⟨⟨ps, hps, htr⟩, _⟩ := I2.hok P _ hP
  obtain ⟨isC, tabA⟩ := ck.at I2.kIn hps htr
  refine wpAny_mono (genexprCode_any (prog := X.prog) (w := X.w) (A := X.A) (E := X.xe) hcode isC tabA) (fun code s3 h3 => ?_) fun _ _ e => e
  obtain ⟨h3, tk3, rfl, hx3, hsz3, ht3⟩ := h3
  have I3 : Inv X pins σ H1 { s2 with heap := h3, toks := tk3 } := I2.grow (t' := tk3) hP hx3 ht3
  have hJ : J ∈ fp := (W X.A hr.hd).sub J (by simp)
  have hnP : ∀ b ∈ fp, b ≠ P := fun b hb z => hext b hb P (by rw [z]; exact hP)
  have hst3 : St₀ 0 h3 := (W X.A hr.hd).frame _ _ _ hst fun b hb o e => hx3 b o (hnP b hb) e
  obtain ⟨bmA, ob, b1, b2, b3, b4, b5, b6⟩ := bm.ex
  refine wpAny_builtinsFor (m := X.mg) (by rw [I.ok.glob]; exact I3.mod.glob.keeps I3.bk) b1 b2 (I3.bk _ _ b3) b4 b5 b6 ?_
  have hclt : cStatics ≠ J := fun z => by
    obtain ⟨mc, hn, _⟩ := I2.ok.mod.nolimit
    obtain ⟨o, es, ep, ho, _⟩ := hn
    have f := fj
    obtain ⟨f0, f1, f2, f3, f4, f5⟩ := f
    subst z
    rcases f3 with f3 | f3
    · exact I2.ok.noex _ o ho f3
    · have := Heap.lt_size (I2.ok.bs _ o ho).1
      exact absurd this (Nat.not_lt.mpr f3)
  have W' := fun A' hA => (W A' hA).bound
  refine ⟨J, fp, [J], n, _, St₀, fun _ => true, fun i y => i < n ∧ y = .bool (pr i), rfl, W', hst3, fun b hb => Nat.lt_of_lt_of_le (hfp b hb) hsz3, I3.nolimit, fun hmem => ?_, fun href hh => ⟨?_, ?_⟩, fun a h₅ tk gs hgb hag hsz₅ hk₅ WS hat => ?_⟩
  · exact absurd (List.mem_singleton.mp hmem) hclt
  · intro A' E' i v s₂ m₂ hA _ _ _ _ _ _
    exact wpAny_pure ⟨rfl, s₂.heap, s₂.toks, rfl, fun _ _ e => e⟩
  · intro A' E' i v s₂ m₂ hA hD hU hpv _ hn hmx hkp
    obtain ⟨hin, hpv⟩ := hpv
    obtain ⟨y, hy, ry⟩ := hv i v hpv
    have O : Out X σ H1 s₂.heap := I3.out (it := J) fj fun b o hb e => hkp b (List.mem_range.mpr (Heap.lt_size e)) (by simpa using hb) o (hh b o e)
    refine wpAny_mono (hel A' E' _ code s₂ m₂ (lv1 x y) σ H1 _ hA hU O hn (fun z w hz => ?_) (ht i y hin hy)) (fun w s₃ r => ?_) fun _ _ e => e
    · by_cases e : z = x
      · have hz' : some y = some w := by rw [← hz]; exact (if_pos e).symm
        cases hz'
        subst e
        exact ⟨v, ry, hmx⟩
      · have hz' : none = some w := by rw [← hz]; exact (if_neg e).symm
        cases hz'
    · obtain ⟨⟨b, rb, eb⟩, K⟩ := r
      subst eb
      exact ⟨⟨hin, rb⟩, K⟩
  · refine Calls.spliced_nil ?_
    have WS1 := WS.in4_1
    refine call_all_walkS (WS1.self 0 _ _ _ hat ⟨a, _, _, _, _, _, _, pr, rfl, WS1, hat, ?_, fun s' hm' => ?_⟩)
    · intro j v s Q E hv hQ
      obtain ⟨i, hi', hin, rfl⟩ := hv
      rw [passing_all] at hi'
      have : i = j := by
        obtain ⟨hl, e⟩ := List.getElem?_eq_some_iff.mp hi'
        rw [List.getElem_range] at e; exact e.symm
      subst this
      exact wpAny_truthy_bool hQ
    · obtain ⟨hh, g', d', tt, os'⟩ := s'
      have ho : os' = s2.os := hm'.os
      subst ho
      have hb : AllBare g' := AllBare.movedS (AllBare.push I3.bare hgb) hm'
      have kk : ∀ b o, b ≠ J → h3.get? b = some o → hh.get? b = some o := fun b o hb e => hm'.heap b o (fun hmem => by
        rcases List.mem_cons.mp hmem with e1 | e1
        · exact absurd (Heap.lt_size e) (by rw [e1]; exact Nat.lt_irrefl _)
        · exact hb (List.mem_singleton.mp e1)) (hk₅ b o e)
      have I6 : Inv X pins σ H1 { s2 with heap := hh, gens := g', drawn := d', toks := tt } := I3.ran (h' := hh) (it := J) kk fj hb
      refine ⟨.bl _, H1, I6, ?_, q⟩
      show Value.bool _ = Value.bool _
      congr 1
      rw [passing_all, List.length_range]
end
section
variable {X : Cx} {e : Expr} {te : TE}
def iGStr (te : TE) : TIG := fun σ H R => te σ H fun v H1 => ∃ z : Str, v = .str z ∧ R z.cps.toList.length (fun i => z.cps.toList[i]?.map fun c => V.str (sg c)) H1
theorem pig_str (hh : X.A.handled = none) (he : PE X e te) : PIG X e (iGStr te) := by
  intro pins s σ H R I h
  refine thn (he pins s σ H _ I h) fun v s1 ⟨y, H1, I1, r1, z, ez, q⟩ => ?_
  subst ez
  obtain ⟨t, rfl⟩ := r1
  refine wpAny_pyIter_strU ?_
  have I2 : Inv X pins σ H1 { s1 with heap := s1.heap.push { cls := .type (strIterType z), data := .fields #[.str z t, .int 0 0] } } := I1.kept (t' := s1.toks) fun b o e => Heap.get?_push_of_some _ e
  have hit2 : (s1.heap.push { cls := .type (strIterType z), data := .fields #[.str z t, .int 0 0] }).IsStrIter s1.heap.objs.size (strIterType z) z t 0 := ⟨_, Heap.get?_push_size _ rfl, rfl, rfl⟩
  have W : ∀ A' : Around, A'.handled = none → Walks X.prog X.w A' s1.heap.objs.size [s1.heap.objs.size] [s1.heap.objs.size] z.cps.size (SignAt z) (fun i h => h.IsStrIter s1.heap.objs.size (strIterType z) z t i) := fun A' hA => by
    rcases strIterType_of z with e | e
    · rw [e]; exact Walks.strAscii hA _ z t
    · rw [e]; exact Walks.strWide hA _ z t
  refine ⟨s1.heap.objs.size, [s1.heap.objs.size], z.cps.size, SignAt z, _, fun i => z.cps.toList[i]?.map fun c => V.str (sg c), H1, rfl, I2, I1.fpOk (Nat.le_refl _) (I1.hok.fresh (Nat.le_refl _)), fun b hb => ?_, fun b hb P hP => ?_, W, hit2, fun i u hu => ?_, ?_⟩
  · rw [List.mem_singleton.mp hb]
    show _ < (s1.heap.push _).objs.size
    rw [Heap.size_push]; exact Nat.lt_succ_self _
  · rw [List.mem_singleton.mp hb] at hP
    have := I1.hok.fresh (Nat.le_refl _)
    rw [this] at hP; cases hP
  · obtain ⟨c', t', hc', rfl⟩ := hu
    refine ⟨.str (sg c'), ?_, _, rfl⟩
    show Option.map (fun c => V.str (sg c)) z.cps.toList[i]? = _
    rw [Array.getElem?_toList, hc']; rfl
  · rw [← Array.length_toList]; exact q
def iGRng (ta : TA) : TIG := fun σ H R => ta σ H fun vs H1 => ∃ j : Int, vs = [.int j] ∧ -(2 ^ 62) ≤ j ∧ j < 2 ^ 62 ∧ R j.toNat (fun i => some (.int (i : Int))) H1
theorem pig_range1 {a : Expr} {ta : TA} {p pos : Pos} (hg : Gl X "range") (hm : X.mg "range" = none) (ha : PA X [a] ta) (hs : starEach [a] X.env = [(false, eval a X.env)] := by rfl) : PIG X (.Call (.Name "range" p) [a] [] pos) (iGRng ta) := by
  intro pins s σ H R I h
  refine Call_ (ld_blt I hg hm boot_range (PyProof.Rows.callWith_type1 (thn (ha pos pins s σ H _ I h) fun us s1 ⟨vs, H1, I1, r1, q1⟩ => ?_) hs rfl))
  obtain ⟨j, e, h3, h4, q⟩ := q1
  subst e
  cases r1 with
  | cons r rr =>
    cases rr
    obtain ⟨t, rfl⟩ := r
    refine call_range_1 ?_
    generalize ht1 : s1.toks = t1
    generalize ht2 : t1 + 1 = t2
    generalize ht3 : t2 + 1 = t3
    refine wpAny_pyIter_range (IsRange.new ..) (small_one (by omega) (by omega) h3 h4) ?_
    have I2 : Inv X pins σ H1 { s1 with heap := s1.heap.push { cls := .type "range", data := .fields #[.int 0 t1, .int j t, .int 1 t2] }, toks := t3 } := I1.kept fun b o e => Heap.get?_push_of_some _ e
    generalize hb0 : s1.heap.push { cls := .type "range", data := .fields #[.int 0 t1, .int j t, .int 1 t2] } = hb at I2
    have I3 : Inv X pins σ H1 { s1 with heap := hb.push { cls := .type "range_iterator", data := .fields #[rawInt 0, rawInt (Builtin.Range.rangeSize 0 j 1), rawInt 1] }, toks := t3 } := I2.kept (t' := t3) fun b o e => Heap.get?_push_of_some _ e
    have fr := I2.hok.fresh (Nat.le_refl _)
    refine ⟨hb.objs.size, [hb.objs.size], j.toNat, _, _, fun i => some (.int (i : Int)), H1, rfl, I3, I2.fpOk (Nat.le_refl _) fr, fun b hb1 => ?_, fun b hb1 P hP => ?_, fun A' hA => Walks.range hA hb.objs.size 0 1 j.toNat, ?_, fun i u hu => ?_, q⟩
    · rw [List.mem_singleton.mp hb1]
      show _ < (hb.push _).objs.size
      rw [Heap.size_push]; exact Nat.lt_succ_self _
    · rw [List.mem_singleton.mp hb1] at hP
      have fr' : H1 hb.objs.size = none := fr
      rw [fr'] at hP; cases hP
    · have e1 : (0 : Int) + ((0 : Nat) : Int) * 1 = 0 := by simp
      have e2 : ((j.toNat : Nat) : Int) - ((0 : Nat) : Int) = Builtin.Range.rangeSize 0 j 1 := by rw [rangeSize_one]; split <;> omega
      show IsRangeIter _ _ (0 + ((0 : Nat) : Int) * 1) (((j.toNat : Nat) : Int) - ((0 : Nat) : Int)) 1
      rw [e1, e2]
      exact Heap.get?_push_size _ rfl
    · obtain ⟨t', rfl⟩ := hu
      refine ⟨_, rfl, t', ?_⟩
      congr 1; omega
end
end L2
set_option Elab.async false
set_option linter.all false
set_option maxRecDepth 100000
namespace L2
open PySem PySem.Spec PyProof.Rows
def ThingL (K : PySem.W.Frag) (H : Hp) (v : V) : Prop := (∃ y : Str, v = .str y ∧ y.length ≤ 400) ∨ ∀ H', Same H H' → IsI K H' v "str" false
theorem ThingL.same {K : PySem.W.Frag} {H H' : Hp} {v : V} (h : ThingL K H v) (s : Same H H') : ThingL K H' v := h.imp id fun q H2 s2 => q H2 (s.trans s2)
def spIsLeftL : Sp := fun vs H Q _ => ∃ z y : Str, vs = [.str z, .str y] ∧ z.length ≤ 200 ∧ y.length ≤ 4000 ∧ Q (.bl (fsts z.cps.toList 0 y.cps.toList).isSome) H
def spWhole1 : Sp := fun vs H Q _ => ∃ n : Int, vs = [.int n] ∧ Q (.bl true) H
def spHasL (K : PySem.W.Frag) : Sp := fun vs H Q _ => ∃ (z : Str) (x : V), vs = [.str z, x] ∧ z.length ≤ 200 ∧ ((∃ y : Str, x = .str y ∧ y.length ≤ 4000 ∧ ∀ H', Same H H' → Q (.bl (hasB z y)) H') ∨ (IsI K H x "str" false ∧ Q (.bl false) H))
def spAsked (K : PySem.W.Frag) : Sp := fun vs H Q _ => ∃ (p q0 : Addr) (z : Str) (cs : List Nat), vs = [.ref p, .str z, .ref q0] ∧ DrawsAt H p ∧ SignsAt H q0 cs ∧ q0 ≠ p ∧ IsRow z ∧ z.length ≤ 80 ∧ ∀ (v : V) (H' : Hp), ThingL K H' v → DrawsAt H' p → Kp p H H' → Q v H'
structure HeldL (H : Hp) (h : Addr) (X : List Addr) (n : Nat) : Prop where
  ne : h ∉ X
  ex : ∃ ts : List Addr, H h = some (.lst (ts.map V.ref)) ∧ ts.length ≤ n ∧ ∀ t ∈ ts, t ≠ h ∧ t ∉ X ∧ ∃ (a b : Addr) (ns : List Int), H t = some (.tup [.ref a, .ref b]) ∧ a ≠ h ∧ a ∉ X ∧ b ≠ h ∧ b ∉ X ∧ H a = some (.lst (ns.map V.int)) ∧ H b = some (.lst (ns.map V.int))
theorem HeldL.keep {H H' : Hp} {h : Addr} {X : List Addr} {n : Nat} (x : HeldL H h X n) (up : ∀ (b : Addr) (o : HO), H b = some o → b ∉ X → (∀ C dx fs, o ≠ .ins C dx fs) → H' b = some o) : HeldL H' h X n := by
  obtain ⟨ts, e, l, r⟩ := x.ex
  refine ⟨x.ne, ts, up _ _ e x.ne (fun _ _ _ z => nomatch z), l, fun t ht => ?_⟩
  obtain ⟨n1, n2, a, b, ns, e1, n3, n4, n5, n6, e2, e3⟩ := r t ht
  exact ⟨n1, n2, a, b, ns, up _ _ e1 n2 (fun _ _ _ z => nomatch z), n3, n4, n5, n6, up _ _ e2 n4 (fun _ _ _ z => nomatch z), up _ _ e3 n6 (fun _ _ _ z => nomatch z)⟩
theorem HeldL.kp {H H' : Hp} {h p : Addr} {X : List Addr} {n : Nat} (x : HeldL H h X n) (hp : p ∈ X) (k : Kp p H H') : HeldL H' h X n := x.keep fun b o e nX _ => k b o e fun z => nX (z ▸ hp)
theorem HeldL.same {H H' : Hp} {h : Addr} {X : List Addr} {n : Nat} (x : HeldL H h X n) (k : Same H H') : HeldL H' h X n := x.keep fun b o e _ _ => k b o e
theorem HeldL.mono {H : Hp} {h : Addr} {X : List Addr} {n m : Nat} (x : HeldL H h X n) (l : n ≤ m) : HeldL H h X m := let ⟨ts, e, l', r⟩ := x.ex; ⟨x.ne, ts, e, Nat.le_trans l' l, r⟩
theorem HeldL.more {H : Hp} {h l : Addr} {X : List Addr} {n : Nat} (x : HeldL H h X n) (e : H l = none) : HeldL H h (l :: X) n := by
  obtain ⟨ts, e0, l', r⟩ := x.ex
  have nn : ∀ {b : Addr} {o : HO}, H b = some o → b ∉ X → b ∉ l :: X := fun eb nb z => by
    rcases List.mem_cons.mp z with z | z
    · rw [z, e] at eb; cases eb
    · exact nb z
  refine ⟨nn e0 x.ne, ts, e0, l', fun t ht => ?_⟩
  obtain ⟨n1, n2, a, b, ns, e1, n3, n4, n5, n6, e2, e3⟩ := r t ht
  exact ⟨n1, nn e1 n2, a, b, ns, e1, n3, nn e2 n4, n5, nn e3 n6, e2, e3⟩
theorem HeldL.push {H : Hp} {h t a b : Addr} {X : List Addr} {n : Nat} {ns : List Int} (x : HeldL H h X n) (et : H t = some (.tup [.ref a, .ref b])) (ea : H a = some (.lst (ns.map V.int))) (eb : H b = some (.lst (ns.map V.int))) (n1 : t ≠ h) (n2 : t ∉ X) (n3 : a ≠ h) (n4 : a ∉ X) (n5 : b ≠ h) (n6 : b ∉ X) :
    ∃ acc, H h = some (.lst acc) ∧ acc.length ≤ n ∧ HeldL (upd H h (.lst (acc ++ [.ref t]))) h X (n + 1) := by
  obtain ⟨ts, e, l, r⟩ := x.ex
  refine ⟨_, e, by rw [List.length_map]; exact l, x.ne, ts ++ [t], by rw [upd_same, List.map_append]; rfl, by rw [List.length_append]; exact Nat.succ_le_succ l, fun u hu => ?_⟩
  rcases List.mem_append.mp hu with hu | hu
  · obtain ⟨m1, m2, a, b, ns, e1, m3, m4, m5, m6, e2, e3⟩ := r u hu
    exact ⟨m1, m2, a, b, ns, by rw [upd_ne m1]; exact e1, m3, m4, m5, m6, by rw [upd_ne m3]; exact e2, by rw [upd_ne m5]; exact e3⟩
  · rw [List.mem_singleton.mp hu]
    exact ⟨n1, n2, a, b, ns, by rw [upd_ne n1]; exact et, n3, n4, n5, n6, by rw [upd_ne n3]; exact ea, by rw [upd_ne n5]; exact eb⟩
theorem HeldL.fr {H : Hp} {h q : Addr} {X : List Addr} {n : Nat} (x : HeldL H h X n) (e : H q = none) : q ≠ h := let ⟨_, e', _⟩ := x.ex; (ne_of_none e' e).symm
theorem HeldL.neT {H : Hp} {h g : Addr} {X : List Addr} {n : Nat} (x : HeldL H h X n) (hP : H g = some (.ext (TabP g))) : g ≠ h := by
  obtain ⟨ts, e, _⟩ := x.ex
  exact ne_of hP e (by intro z; cases z)
/-- all of these stand -/
def Stand (H : Hp) (X : List Addr) : Prop := ∀ x ∈ X, ∃ o, H x = some o
theorem Stand.out {H : Hp} {X : List Addr} (s : Stand H X) {q : Addr} (e : H q = none) : q ∉ X := fun z => by
  obtain ⟨o, h⟩ := s q z
  rw [e] at h; cases h
def spDoor (C P : Addr) : Sp := fun vs H Q _ => ∃ (p g q0 h : Addr) (X : List Addr) (z : Str) (way : Int) (cs : List Nat) (n : Nat), vs = [.ref p, .ref g, .str z, .int way, .ref q0, .ref h] ∧ DrawsAt H p ∧ GrowAt C H g z ∧ SignsAt H q0 cs ∧ q0 ≠ p ∧ p ∈ X ∧ Stand H X ∧ HeldL H h X n ∧ n ≤ 500 ∧ H P = some (.ext (TabP P)) ∧ 0 ≤ way ∧ way ≤ 3 ∧
  ∀ H', DrawsAt H' p → HeldL H' h X (n + 1) → Kp2 p h H H' → Q (.bl true) H'
def spStands (C P : Addr) : Sp := fun vs H Q _ => ∃ (p g q0 h : Addr) (z : Str) (cs : List Nat) (n : Nat), vs = [.ref p, .ref g, .str z, .ref q0, .ref h] ∧ DrawsAt H p ∧ GrowAt C H g z ∧ SignsAt H q0 cs ∧ q0 ≠ p ∧ q0 ≠ h ∧ HeldL H h [p] n ∧ n ≤ 490 ∧ H P = some (.ext (TabP P)) ∧
  ∀ H', DrawsAt H' p → HeldL H' h [p] (n + 4) → Kp2 p h H H' → Q (.bl true) H'
def spHeldStay : Sp := fun vs H Q _ => ∃ (h : Addr) (X : List Addr) (n : Nat), vs = [.ref h] ∧ HeldL H h X n ∧ n ≤ 500 ∧ ∀ H', Same H H' → Q (.bl true) H'
end L2
set_option Elab.async false
set_option linter.all false
set_option maxRecDepth 100000
set_option maxHeartbeats 1000000
namespace L2
open PySem PySem.Spec PyProof.Rows
theorem lay_led (t : SetTable) (es : Array (Int × Value)) (h : Int) (x : Value) : (layNew t es h x).2.1.led = t.led := by
  unfold layNew
  split
  · show (SetTable.orStandIn _ _).led = t.led
    unfold SetTable.orStandIn
    split <;> rfl
  · rfl
theorem relay_led (t : SetTable) (es : Array (Int × Value)) (n : Nat) : (relayAll t es n).2.1.led = t.led := by
  unfold relayAll
  split
  · rename_i t' order e
    have e2 : t'.led = t.led := by
      unfold SetTable.relaid SetTable.laid at e
      simp only [Option.bind_eq_bind] at e
      obtain ⟨ow, _, e⟩ := Option.bind_eq_some_iff.mp e
      cases e; rfl
    dsimp only
    split
    · exact e2
    · rfl
  · rfl
theorem relay_plain (t : SetTable) (es : Array (Int × Value)) (n : Nat) (h : t.plain = false) : (relayAll t es n).2.1.plain = false := by
  unfold relayAll
  split
  · rename_i t' order e
    have e2 : t'.plain = t.plain := by
      unfold SetTable.relaid SetTable.laid at e
      simp only [Option.bind_eq_bind] at e
      obtain ⟨ow, _, e⟩ := Option.bind_eq_some_iff.mp e
      cases e; rfl
    dsimp only
    split
    · rw [e2]; exact h
    · rfl
  · rfl
section
variable {prog : Program} {w : World} {A : Around} {E : Value → Shared → Prop} {s : Shared}
structure SR (prog : Program) (w : World) (h : Heap) (a : Addr) (es : List (Int × Value)) (led : Bool) : Prop where
  ex : ∃ (o : Obj) (ea : Array (Int × Value)) (ep : Nat) (t : SetTable), h.get? a = some o ∧ o.ExactSet ∧ o.data = .set ea ep t ∧ ea.toList = es ∧ t.fits ea.size = true ∧ t.led = led ∧ (ea.size = 0 ∨ t.plain = false)
  el : ElemsOf (PySem.strKind prog w) es
  bd : es.length < 4000
theorem SR.at {h h' : Heap} {a : Addr} {es : List (Int × Value)} {led : Bool} (x : SR prog w h a es led) (k : ∀ o, h.get? a = some o → h'.get? a = some o) : SR prog w h' a es led := by
  obtain ⟨o, ea, ep, t, h1, r⟩ := x.ex
  exact ⟨⟨o, ea, ep, t, k _ h1, r⟩, x.el, x.bd⟩
theorem add_tail {g : Bool → Sem Unit} (hg : ∀ (b : Bool) (s₁ : Shared) (Q' : Unit → Shared → Prop), Q' () s₁ → wpAny (model prog w) A (g b) Q' E s₁)
    {a : Addr} {o : Obj} {es : Array (Int × Value)} {ep : Nat} {t : SetTable} (ho : s.heap.get? a = some o) (hex : o.ExactSet) (hd : o.data = .set es ep t)
    {es1 : Array (Int × Value)} {t2 : SetTable} (hel1 : ElemsOf (PySem.strKind prog w) es1.toList) (hb1 : es1.size < 4000) (hf2 : t2.fits es1.size = true) (hp2 : t2.plain = false) {led : Bool} (hled : t2.led = led) {wasDummy : Bool} {R : Option Bool → Shared → Prop}
    (h : ∀ h' es', Heap.SameBut a s.heap h' → SR prog w h' a es' led → es'.Perm es1.toList → R (some true) { s with heap := h' }) :
    wpAny (model prog w) A (do
        storeSet a es1 t2
        if (!wasDummy && t2.tooFull) = true then do
            g (relayAll t2 es1 (SetTable.grown es1.size)).2.2
            storeSet a (relayAll t2 es1 (SetTable.grown es1.size)).1 (relayAll t2 es1 (SetTable.grown es1.size)).2.1
            pure (some true)
          else pure (some true)) R E s := by
  have big : ∀ {n : Nat}, n < 4000 → n ≤ sizeLine := fun hn => Nat.le_trans (Nat.le_of_lt hn) (by decide)
  have got : ∀ {h : Heap} {o : Obj} {es : Array (Int × Value)} {ep : Nat} {t : SetTable} (es' : Array (Int × Value)) (t' : SetTable), h.get? a = some o → o.data = .set es ep t → (h.update a (Obj.putSet es' t')).get? a = some { o with data := .set es' (ep + 1) t' } := by
    intro h o es ep t es' t' ho hd
    have := Heap.get?_update_self (Obj.putSet es' t') ho (by rw [putSet_of es' t' hd]; rfl)
    rw [putSet_of es' t' hd] at this; exact this
  refine wpAny_bind (wpAny_storeSet_of ho hd ?_ (big hb1))
  have ho1 := got es1 t2 ho hd
  have hsb1 := Heap.SameBut.update s.heap a (Obj.putSet es1 t2)
  split
  · have hp := relayAll_perm t2 es1 (SetTable.grown es1.size)
    have hfr := relayAll_fits t2 es1 (SetTable.grown es1.size)
    have hld := relay_led t2 es1 (SetTable.grown es1.size)
    have hpl := relay_plain t2 es1 (SetTable.grown es1.size) hp2
    generalize hRl : relayAll t2 es1 (SetTable.grown es1.size) = Rl at hp hfr hld hpl ⊢
    obtain ⟨es2, t3, gave2⟩ := Rl
    dsimp only at hp hfr hld hpl ⊢
    have hsz : es2.size = es1.size := by rw [← Array.length_toList, hp.length_eq, Array.length_toList]
    have hb2 : es2.size < 4000 := by rw [hsz]; exact hb1
    refine wpAny_bind (hg _ _ _ ?_)
    refine wpAny_bind (wpAny_storeSet_of ho1 rfl ?_ (big hb2))
    have ho2 := got es2 t3 ho1 rfl
    exact wpAny_pure (h _ es2.toList (hsb1.trans (Heap.SameBut.update _ a _)) ⟨⟨_, es2, _, t3, ho2, hex, rfl, rfl, hfr, hld.trans hled, .inr hpl⟩, hel1.perm hp, by rw [Array.length_toList]; exact hb2⟩ hp)
  · exact wpAny_pure (h _ es1.toList hsb1 ⟨⟨_, es1, _, t2, ho1, hex, rfl, rfl, hf2, hled, .inr hp2⟩, hel1, by rw [Array.length_toList]; exact hb1⟩ .rfl)
theorem add_str {a : Addr} {es : List (Int × Value)} {led : Bool} {x : Str} {t₀ : Tok} {Q : Bool → Shared → Prop} (S : SR prog w s.heap a es led) (hb : es.length + 1 < 4000)
    (hF : (∃ e ∈ es, (PySem.strKind prog w).is x e.2 = true) → Q false s)
    (hA : (∀ e ∈ es, (PySem.strKind prog w).is x e.2 = false) → ∀ h' es', Heap.SameBut a s.heap h' → SR prog w h' a es' led → es'.Perm (es ++ [((PySem.strKind prog w).hash x, .str x t₀)]) → Q true { s with heap := h' }) :
    wpAny (model prog w) A (setAddHashed a (.str x t₀) ((PySem.strKind prog w).hash x)) Q E s := by
  obtain ⟨⟨o, ea, ep, t, ho, hex, hd, he, hf, hl, hpl⟩, hel, _⟩ := S
  subst he
  have hkey : (PySem.strKind prog w).is x (.str x t₀) = true := strKind_is prog w x t₀
  have hsc : (Value.str x t₀).scannable = true := rfl
  have hbs : ea.size < scanBound := by
    rw [Array.length_toList] at hb
    exact Nat.lt_trans (by omega) (by decide : 4000 < scanBound)
  unfold setAddHashed setAddHashedIn
  refine wpAny_holding (wpAny_bind (wpAny_setState_of ho hd hf ?_))
  dsimp only
  rw [byScan_of hsc hbs hel]
  simp only [↓reduceIte]
  unfold setAddByScan
  refine wpAny_bind ?_
  refine wpAny_bind (wpAny_rule ?_)
  refine wpAny_bind (wpAny_setScan_of hkey ho hd hf hel ?_)
  cases hr : List.findIdx? (fun e => (PySem.strKind prog w).is x e.2) ea.toList with
  | some j =>
    dsimp only
    obtain ⟨hj, hpj, _⟩ := List.findIdx?_eq_some_iff_getElem.mp hr
    exact wpAny_pure (wpAny_pure (hF ⟨ea.toList[j], List.getElem_mem hj, hpj⟩))
  | none =>
    dsimp only
    have hno := List.findIdx?_eq_none_iff.mp hr
    have hgw : ∀ (b : Bool) {s₁ : Shared} {Q' : Unit → Shared → Prop}, Q' () s₁ → wpAny (model prog w) A (match b with | true => rule "set.scan.the-table-gave-way" | false => pure ()) Q' E s₁ :=
      fun b s₁ Q' hq => by cases b <;> first | exact wpAny_pure hq | exact wpAny_rule hq
    have hperm := layNew_perm t ea ((PySem.strKind prog w).hash x) (.str x t₀)
    have hfits := layNew_fits t ea ((PySem.strKind prog w).hash x) (.str x t₀)
    have hled := lay_led t ea ((PySem.strKind prog w).hash x) (.str x t₀)
    generalize hL : layNew t ea ((PySem.strKind prog w).hash x) (.str x t₀) = L at hperm hfits hled ⊢
    obtain ⟨es1, t1, wasDummy, gave⟩ := L
    dsimp only at hperm hfits hled ⊢
    rw [Array.toList_push] at hperm
    have hel1 : ElemsOf (PySem.strKind prog w) es1.toList := (hel.push hkey hsc).perm hperm
    have hb1' : es1.size < 4000 := by rw [← Array.length_toList, hperm.length_eq, List.length_append]; exact hb
    refine wpAny_bind (hgw _ ?_)
    have hend : ∀ h' es', Heap.SameBut a s.heap h' → SR prog w h' a es' led → es'.Perm es1.toList → Q true { s with heap := h' } := fun h' es' h1 h2 h3 => hA (fun e he => by simpa using hno e he) h' es' h1 h2 (h3.trans hperm)
    split
    · refine wpAny_bind ?_
      rw [hashByValue_scannable 8 hsc]
      refine wpAny_pure ?_
      refine add_tail ?_ ho hex hd hel1 hb1' (t2 := { t1 with plain := false }) (SetTable.fits_plain_off hfits) rfl (hled.trans hl) ?_
      · intro b s₁ Q' hq; cases b <;> first | exact wpAny_pure hq | exact wpAny_rule hq
      · intro h' es' hsb hS' hp'; dsimp only; exact wpAny_pure (hend h' es' hsb hS' hp')
    · rename_i hnp
      refine wpAny_bind (wpAny_pure ?_)
      simp only [↓reduceIte]
      refine add_tail ?_ ho hex hd hel1 hb1' hfits (by simpa using hnp) (hled.trans hl) ?_
      · intro b s₁ Q' hq; cases b <;> first | exact wpAny_pure hq | exact wpAny_rule hq
      · intro h' es' hsb hS' hp'; dsimp only; exact wpAny_pure (hend h' es' hsb hS' hp')
end
end L2
set_option Elab.async false
set_option linter.all false
set_option maxRecDepth 100000
set_option maxHeartbeats 3200000
namespace L2
open PySem PySem.Spec PyProof.Rows
def codeV : Value → Nat
  | .str x _ => x.cps.getD 0 0
  | _ => 0
/-- the set at S holds the signs of cs -/
structure SC (prog : Program) (w : World) (h : Heap) (S : Addr) (led : Bool) (cs : List Nat) : Prop where
  ex : ∃ es : List (Int × Value), SR prog w h S es led ∧ (∀ e ∈ es, ∃ c t, e.2 = .str (sg c) t) ∧ (es.map (fun e => codeV e.2)).Nodup ∧ ∀ c, c ∈ es.map (fun e => codeV e.2) ↔ c ∈ cs
section
variable {prog : Program} {w : World} {A : Around} {E : Value → Shared → Prop} {s : Shared}
theorem SC.at {h h' : Heap} {S : Addr} {led : Bool} {cs : List Nat} (x : SC prog w h S led cs) (k : ∀ o, h.get? S = some o → h'.get? S = some o) : SC prog w h' S led cs := by
  obtain ⟨es, a, b⟩ := x.ex
  exact ⟨es, a.at k, b⟩
theorem nodup_len : ∀ {l m : List Nat}, l.Nodup → (∀ d ∈ l, d ∈ m) → l.length ≤ m.length
  | [], _, _, _ => Nat.zero_le _
  | a :: l, m, nd, h => by
    have n := List.nodup_cons.mp nd
    have ha := h a (List.mem_cons_self ..)
    have := nodup_len (m := m.erase a) n.2 fun d hd => (List.mem_erase_of_ne (show d ≠ a from fun e => n.1 (by rw [← e]; exact hd))).mpr (h d (List.mem_cons_of_mem _ hd))
    rw [List.length_erase_of_mem ha] at this
    have : 0 < m.length := List.length_pos_of_mem ha
    rw [List.length_cons]; omega
theorem take_succ_mem {cs : List Nat} {i c : Nat} (h : cs[i]? = some c) (d : Nat) : d ∈ cs.take (i + 1) ↔ d ∈ cs.take i ∨ d = c := by
  rw [List.take_succ, h]
  simp
theorem setNew {a : Value} {Q₁ : Value → Shared → Prop}
    (h : Q₁ (.ref s.heap.objs.size) { s with heap := s.heap.push { cls := .type "set", dict := none, data := .set #[] 0 (.fresh 0 0 (!w.params.followText "set-order")) } }) :
    codeAny (model prog w) A (.call (.builtin "set.__new__") ⟨[.type "set", a], []⟩) (wants Q₁ E) s := by
  refine codeAny_of_tree ?_
  show wpAny _ A.in1 (do checkBuiltinCall "set.__new__" ⟨[.type "set", a], []⟩; again (.builtin "set.__new__" ⟨[.type "set", a], []⟩)) _ _ s
  refine wpAny_bind (wpAny_of_eq (PySem.F.newCall_set_1 a) (wpAny_pure ⟨plainId_quiet PySem.F.plain_set_new _, codeAny_builtin PySem.F.entry_set_new ?_⟩))
  rw [Around.under_plainId PySem.F.plain_set_new _]
  unfold Builtin.«set.__new__» Builtin.Frozenset.newClass
  have hsub := sub_set_self
  obtain ⟨hp, g, d, tk, os⟩ := s
  dsimp only
  wp_walk
  refine wpAny_askSetting (wpAny_pure ?_)
  dsimp only
  simp only [newObj]
  refine wpAny_bind (wpAny_alloc (wpAny_pure ?_))
  exact wpAny_pure h
end
end L2
set_option Elab.async false
set_option linter.all false
set_option maxRecDepth 100000
set_option maxHeartbeats 3200000
namespace L2
open PySem PySem.Spec PyProof.Rows
section
variable {prog : Program} {w : World} {A : Around} {E : Value → Shared → Prop} {s : Shared}
end
end L2
set_option Elab.async false
set_option linter.all false
set_option maxRecDepth 100000
namespace L2
open PySem PySem.Spec PyProof.Rows
def tLenSet (ta : TA) : TE := fun σ H Q => ta σ H fun vs H1 => ∃ z : Str, vs = [.str z] ∧ z.length < 3900 ∧ ∀ ds : List Nat, ds.Nodup → (∀ c, c ∈ ds ↔ c ∈ z.cps.toList) → Q (.int (ds.length : Nat)) H1
end L2
set_option Elab.async false
set_option linter.all false
set_option maxRecDepth 100000
namespace L2
open PySem PySem.Spec PyProof.Rows
/-- from which length on it is left -/
def begO (cs ys : List Nat) : Nat := match fsts cs 0 ys with | none => cs.length + 1 | some ks => match ks.getLast? with | none => 0 | some k => k + 1
def spOtherC : Sp := fun vs H Q _ => ∃ (p q0 : Addr) (z : Str) (cs : List Nat), vs = [.ref p, .str z, .ref q0, .int 80] ∧ DrawsAt H p ∧ SignsAt H q0 cs ∧ q0 ≠ p ∧ IsRow z ∧ z.length ≤ 80 ∧ ∀ (x : Str) (H' : Hp), IsRow x → x.length ≤ 80 → DrawsAt H' p → Kp p H H' → Q (.str x) H'
def spRightG (P : Addr) : Sp := fun vs H Q _ => ∃ z y : Str, vs = [.str z, .str y] ∧ IsRow z ∧ IsRow y ∧ z.length ≤ 80 ∧ y.length ≤ 80 ∧ H P = some (.ext (TabP P)) ∧ ∀ H', Same H H' → Q (.bl true) H'
end L2
set_option Elab.async false
set_option linter.all false
set_option maxRecDepth 100000
namespace L2
open PySem PySem.Spec PyProof.Rows
def risB (cs : List Nat) : Bool := (List.range (cs.length - 1)).all fun i => decide (cs.getD i 0 < cs.getD (i + 1) 0)
def LetOk (z : Str) : Prop := IsRow z ∧ z.cps.toList ≠ [] ∧ z.cps.toList.Pairwise (· < ·)
def letB (z : Str) : Bool := rowB z && (decide (z.length ≠ 0) && risB z.cps.toList)
theorem ris_iff : ∀ cs : List Nat, risB cs = true ↔ cs.Pairwise (· < ·)
  | [] => by simp [risB]
  | [a] => by simp [risB]
  | a :: b :: cs => by
    have ih := ris_iff (b :: cs)
    unfold risB at ih ⊢
    rw [List.all_eq_true] at ih ⊢
    have hl : (a :: b :: cs).length - 1 = cs.length + 1 := rfl
    have hl2 : (b :: cs).length - 1 = cs.length := rfl
    rw [hl]
    rw [hl2] at ih
    constructor
    · intro h
      have h0 : a < b := of_decide_eq_true (h 0 (List.mem_range.mpr (Nat.succ_pos _)))
      have h1 := ih.mp fun i hi => h (i + 1) (List.mem_range.mpr (Nat.succ_lt_succ (List.mem_range.mp hi)))
      refine List.pairwise_cons.mpr ⟨fun c hc => ?_, h1⟩
      rcases List.mem_cons.mp hc with rfl | hc
      · exact h0
      · exact Nat.lt_trans h0 ((List.pairwise_cons.mp h1).1 c hc)
    · intro h i hi
      obtain ⟨h1, h2⟩ := List.pairwise_cons.mp h
      cases i with
      | zero => exact decide_eq_true (h1 b List.mem_cons_self)
      | succ i => exact ih.mpr h2 i (List.mem_range.mpr (Nat.lt_of_succ_lt_succ (List.mem_range.mp hi)))
theorem let_iff (z : Str) : letB z = true ↔ LetOk z := by
  unfold letB LetOk
  rw [Bool.and_eq_true, Bool.and_eq_true, rowB_iff, ris_iff, decide_eq_true_iff]
  have : z.length ≠ 0 ↔ z.cps.toList ≠ [] := by
    rw [len_cps]
    constructor
    · intro h e; rw [e] at h; exact h rfl
    · intro h e; exact h (List.length_eq_zero_iff.mp e)
  rw [this]
def spIsLetters (K : PySem.W.Frag) (P1 P2 : Addr) : Sp := fun vs H Q _ => ∃ x, vs = [x] ∧ ((∃ z : Str, x = .str z ∧ z.length ≤ 4000 ∧ H P1 = some (.ext (TabP P1)) ∧ H P2 = some (.ext (TabP P2)) ∧ Q (.bl (letB z)) H) ∨ (IsI K H x "str" false ∧ Q (.bl false) H) ∨ ∃ a, x = .ref a ∧ H a = some (.ext (ExcP "ValueError" a)) ∧ Q (.bl false) H)
def spHasAll (P : Addr) : Sp := fun vs H Q _ => ∃ (u : V) (z : Str), vs = [u, .str z] ∧ H P = some (.ext (TabP P)) ∧
  ((∃ y : Str, u = .str y ∧ Q (.bl (z.cps.toList.all fun c => decide (c ∈ y.cps.toList))) H) ∨ ∃ d kvs, u = .ref d ∧ Rd H d (.dK kvs) ∧ Q (.bl (z.cps.toList.all fun c => (valV kvs (Sum.inr (sg c))).isSome)) H)
def arE (ls : List Nat) : List Nat → List Nat → Nat → List Nat
  | [], _, _ => []
  | c :: cs, ms, p => if ms.filter (fun d => !decide (d = c)) = [] then (p + 1) :: arE ls cs ls (p + 1) else arE ls cs (ms.filter fun d => !decide (d = c)) (p + 1)
theorem arE_cons (ls : List Nat) (c : Nat) (cs ms : List Nat) (p : Nat) : arE ls (c :: cs) ms p = if ms.filter (fun d => !decide (d = c)) = [] then (p + 1) :: arE ls cs ls (p + 1) else arE ls cs (ms.filter fun d => !decide (d = c)) (p + 1) := rfl
theorem arE_none (ls : List Nat) : ∀ (ys ms : List Nat) (p c : Nat), c ∈ ms → c ∉ ys → arE ls ys ms p = []
  | [], ms, p, c, _, _ => rfl
  | y :: ys, ms, p, c, hc, hn => by
    have hcy : c ≠ y := fun e => hn (by rw [e]; exact List.mem_cons_self)
    have hcm : c ∈ ms.filter fun d => !decide (d = y) := List.mem_filter.mpr ⟨hc, by simp [hcy]⟩
    unfold arE
    rw [if_neg fun e => by rw [e] at hcm; cases hcm]
    exact arE_none ls ys _ (p + 1) c hcm fun h => hn (List.mem_cons_of_mem _ h)
theorem arE_step (ls : List Nat) : ∀ (ys ms : List Nat) (p : Nat), ms ≠ [] → (∀ c ∈ ms, c ∈ ys) →
    ∃ k, 0 < k ∧ k ≤ ys.length ∧ (∀ c ∈ ms, ∃ j, idx c ys = some j ∧ j < k) ∧ (∃ c ∈ ms, idx c ys = some (k - 1)) ∧ arE ls ys ms p = (p + k) :: arE ls (ys.drop k) ls (p + k)
  | [], ms, p, hm, h => by
    cases ms with
    | nil => exact absurd rfl hm
    | cons c r => cases h c List.mem_cons_self
  | y :: ys, ms, p, hm, h => by
    have ix : ∀ c, idx c (y :: ys) = if y = c then some 0 else (idx c ys).map (· + 1) := fun _ => rfl
    by_cases e : (ms.filter fun d => !decide (d = y)) = []
    · have all : ∀ c ∈ ms, c = y := fun c hc => by
        have := List.filter_eq_nil_iff.mp e c hc
        simpa using this
      obtain ⟨c, r, rfl⟩ := List.exists_cons_of_ne_nil hm
      refine ⟨1, Nat.one_pos, Nat.succ_le_succ (Nat.zero_le _), fun d hd => ⟨0, by rw [ix, all d hd, if_pos rfl], Nat.one_pos⟩, ⟨c, List.mem_cons_self, by rw [ix, all c List.mem_cons_self, if_pos rfl]⟩, ?_⟩
      rw [arE_cons, if_pos e]; rfl
    · obtain ⟨k, hk, hkl, h1, ⟨c0, hc0, h2⟩, h3⟩ := arE_step ls ys (ms.filter fun d => !decide (d = y)) (p + 1) e fun c hc => by
        obtain ⟨hc1, hc2⟩ := List.mem_filter.mp hc
        have hne : c ≠ y := by simpa using hc2
        rcases List.mem_cons.mp (h c hc1) with z | z
        · exact absurd z hne
        · exact z
      obtain ⟨hc01, hc02⟩ := List.mem_filter.mp hc0
      have hne0 : ¬ y = c0 := by
        have : c0 ≠ y := by simpa using hc02
        exact fun z => this z.symm
      refine ⟨k + 1, Nat.succ_pos _, Nat.succ_le_succ hkl, fun d hd => ?_, ⟨c0, hc01, ?_⟩, ?_⟩
      · by_cases ed : y = d
        · exact ⟨0, by rw [ix, if_pos ed], Nat.succ_pos _⟩
        · obtain ⟨j, hj, hjk⟩ := h1 d (List.mem_filter.mpr ⟨hd, by simpa using fun z : d = y => ed z.symm⟩)
          exact ⟨j + 1, by rw [ix, if_neg ed, hj]; rfl, Nat.succ_lt_succ hjk⟩
      · rw [ix, if_neg hne0, h2]
        show some (k - 1 + 1) = some (k + 1 - 1)
        congr 1; omega
      · have e1 : p + 1 + k = p + (k + 1) := by omega
        rw [arE_cons, if_neg e, h3, e1]; rfl
theorem arE_cat (ls : List Nat) {ys : List Nat} {t c : Nat} (ms : List Nat) (p : Nat) (hc : ys[t]? = some c) : arE ls (ys.drop t) ms p = if ms.filter (fun d => !decide (d = c)) = [] then (p + 1) :: arE ls (ys.drop (t + 1)) ls (p + 1) else arE ls (ys.drop (t + 1)) (ms.filter fun d => !decide (d = c)) (p + 1) := by
  obtain ⟨hlt, e⟩ := List.getElem?_eq_some_iff.mp hc
  rw [List.drop_eq_getElem_cons hlt, e]
  rfl
theorem arE_len (ls : List Nat) : ∀ (ys ms : List Nat) (p : Nat), (arE ls ys ms p).length ≤ ys.length
  | [], _, _ => Nat.le_refl _
  | c :: cs, ms, p => by
    unfold arE
    split
    · exact Nat.succ_le_succ (arE_len ls cs ls (p + 1))
    · exact Nat.le_succ_of_le (arE_len ls cs _ (p + 1))
/-- what a list of ends shows -/
def shB (row ls : List Nat) : Nat → List Int → Bool
  | _, [] => true
  | s, e :: es => decide (0 ≤ e ∧ e < (row.length : Int) + 1) && (ls.all (fun c => decide (c ∈ (row.drop s).take (e.toNat - s))) && shB row ls e.toNat es)
theorem shB_cons (row ls : List Nat) (s : Nat) (e : Int) (es : List Int) : shB row ls s (e :: es) = (decide (0 ≤ e ∧ e < (row.length : Int) + 1) && (ls.all (fun c => decide (c ∈ (row.drop s).take (e.toNat - s))) && shB row ls e.toNat es)) := rfl
theorem idx_take {c : Nat} : ∀ {xs : List Nat} {j k : Nat}, idx c xs = some j → j < k → c ∈ xs.take k
  | [], j, k, h, _ => by cases h
  | x :: xs, j, k, h, hk => by
    have h' : (if x = c then some 0 else (idx c xs).map (· + 1)) = some j := h
    cases k with
    | zero => exact absurd hk (Nat.not_lt_zero _)
    | succ k =>
      rw [List.take_succ_cons]
      by_cases e : x = c
      · rw [e]; exact List.mem_cons_self
      · rw [if_neg e] at h'
        obtain ⟨i, hi, rfl⟩ := Option.map_eq_some_iff.mp h'
        exact List.mem_cons_of_mem _ (idx_take hi (Nat.lt_of_succ_lt_succ hk))
theorem shB_arE (row ls : List Nat) (hls : ls ≠ []) : ∀ (N p : Nat), row.length - p ≤ N → p ≤ row.length → shB row ls p ((arE ls (row.drop p) ls p).map fun k : Nat => (k : Int)) = true := by
  intro N
  induction N with
  | zero =>
    intro p h hp
    rw [List.drop_eq_nil_of_le (by omega)]; rfl
  | succ N ih =>
    intro p h hp
    by_cases ha : ∀ c ∈ ls, c ∈ row.drop p
    · obtain ⟨k, hk, hkl, h1, _, h3⟩ := arE_step ls (row.drop p) ls p hls ha
      rw [List.length_drop] at hkl
      rw [h3, List.map_cons]
      unfold shB
      rw [Bool.and_eq_true, Bool.and_eq_true]
      refine ⟨decide_eq_true ⟨by omega, by omega⟩, List.all_eq_true.mpr fun c hc => decide_eq_true ?_, ?_⟩
      · obtain ⟨j, hj, hjk⟩ := h1 c hc
        have : ((p + k : Nat) : Int).toNat - p = k := by omega
        rw [this]
        exact idx_take hj hjk
      · have e : ((p + k : Nat) : Int).toNat = p + k := by omega
        rw [e, List.drop_drop]
        exact ih (p + k) (by omega) (by omega)
    · have : ∃ c, c ∈ ls ∧ c ∉ row.drop p := Classical.byContradiction fun hn => ha fun c hc => Classical.byContradiction fun hx => hn ⟨c, hc, hx⟩
      obtain ⟨c, hc, hx⟩ := this
      rw [arE_none ls _ _ _ c hc hx]; rfl
def spPlaceI : Sp := fun vs H Q _ => ∃ a b : Int, vs = [.int a, .int b] ∧ Q (.bl (decide (0 ≤ a ∧ a < b))) H
def spArches (K : PySem.W.Frag) (P1 P2 P3 : Addr) : Sp := fun vs H Q _ => ∃ z l : Str, vs = [.str z, .str l] ∧ z.length ≤ 200 ∧ LetOk l ∧ H P1 = some (.ext (TabP P1)) ∧ H P2 = some (.ext (TabP P2)) ∧ H P3 = some (.ext (TabP P3)) ∧
  ∀ (m : Addr) (H' : Hp), Same H H' → H m = none → H' m = some (.lst (nInt (arE l.cps.toList z.cps.toList l.cps.toList 0))) → Q (.ref m) H'
def spArchesL : Sp := fun vs H Q _ => ∃ z l : Str, vs = [.str z, .str l] ∧ z.length ≤ 200 ∧ IsRow l ∧ l.length ≤ 26 ∧ ∀ (m : Addr) (H' : Hp), Same H H' → H m = none → H' m = some (.lst (nInt (arE l.cps.toList z.cps.toList l.cps.toList 0))) → Q (.ref m) H'
def spShowsI (K : PySem.W.Frag) (P1 P2 P3 : Addr) : Sp := fun vs H Q _ => ∃ (z l : Str) (t : Addr) (ns : List Int), vs = [.str z, .str l, .ref t] ∧ z.length ≤ 200 ∧ LetOk l ∧ SqL K H t (ns.map V.int) ∧ H P1 = some (.ext (TabP P1)) ∧ H P2 = some (.ext (TabP P2)) ∧ H P3 = some (.ext (TabP P3)) ∧
  Q (if shB z.cps.toList l.cps.toList 0 ns then .int ns.length else .non) H
def spSomeL : Sp := fun vs H Q _ => ∃ (p q : Addr) (cs : List Nat), vs = [.ref p, .ref q] ∧ DrawsAt H p ∧ SignsAt H q cs ∧ q ≠ p ∧ ∀ (l : Str) (H' : Hp), LetOk l → l.length ≤ 26 → DrawsAt H' p → Kp p H H' → Q (.str l) H'
def spRightA (P1 P2 P3 : Addr) : Sp := fun vs H Q _ => ∃ z l : Str, vs = [.str z, .str l] ∧ z.length ≤ 80 ∧ LetOk l ∧ l.length ≤ 26 ∧ H P1 = some (.ext (TabP P1)) ∧ H P2 = some (.ext (TabP P2)) ∧ H P3 = some (.ext (TabP P3)) ∧ ∀ H', Same H H' → Q (.bl true) H'
theorem LetOk.len {l : Str} (h : LetOk l) : l.length ≤ 26 := by
  have h1 := nodup_len (l := l.cps.toList) (m := (List.range 26).map (97 + ·)) (h.2.2.imp fun a => Nat.ne_of_lt a) fun d hd => by
    obtain ⟨a, b⟩ := h.1 d hd
    exact List.mem_map.mpr ⟨d - 97, List.mem_range.mpr (by omega), by omega⟩
  rw [List.length_map, List.length_range, ← len_cps] at h1
  exact h1
end L2
namespace L2
open PySem PySem.Spec PyProof.Rows
theorem lc_enumL {K : PySem.W.Frag} {a : Addr} {xs : List V} {g : TG} {tt : TT} {te : TE} {vs : List Nat} {σ : St} {H1 : Hp} {D : Addr} {Qd : Hp → Prop} (Pv : Nat → Hp → Prop) (h0 : Pv 0 (upd H1 D (.lst []))) (hl : ∀ i H, i ≤ xs.length → Pv i H → SqL K H a xs)
    (hs : ∀ i x T H, xs[i]? = some x → Pv i H → H T = none → g (.ref T) (wipe σ vs) (upd H T (.tup [.int (i : Nat), x])) fun σ2 H2 => wipe σ2 vs = wipe σ vs ∧ tt σ2 H2 fun b H3 =>
      if b = true then te σ2 H3 fun y H4 => ∃ acc, H4 D = some (.lst acc) ∧ acc.length < sizeLine ∧ Pv (i + 1) (upd H4 D (.lst (acc ++ [y]))) else Pv (i + 1) H3) (hd : ∀ H, Pv xs.length H → Qd H) :
    ∃ W : Nat → Nat → Hp → Prop, (∃ m, W 0 m (upd H1 D (.lst []))) ∧ ∀ i m H, W i m H →
      ((Ite K a).stop i H ∧ Qd H) ∨ ((Ite K a).go i H ∧ ∃ Nx : Hp → Prop, (∀ H', Nx H' → ∃ m', m' < m ∧ W (i + 1) m' H') ∧ ∀ x H', (Ite K a).yld i H x H' → g x (wipe σ vs) H' fun σ2 H2 => wipe σ2 vs = wipe σ vs ∧ tt σ2 H2 fun b H3 =>
        if b = true then te σ2 H3 fun y H4 => ∃ acc, H4 D = some (.lst acc) ∧ acc.length < sizeLine ∧ Nx (upd H4 D (.lst (acc ++ [y]))) else Nx H3) := by
  refine ⟨fun i m H => m = xs.length - i ∧ i ≤ xs.length ∧ Pv i H, ⟨xs.length, (Nat.sub_zero _).symm, Nat.zero_le _, h0⟩, ?_⟩
  rintro i m H ⟨rfl, hi, p⟩
  have h1 := hl i H hi p
  by_cases hlt : i < xs.length
  · have ex : xs[i]? = some xs[i] := List.getElem?_eq_getElem hlt
    refine .inr ⟨⟨xs, _, h1, ex⟩, Pv (i + 1), fun H' p' => ⟨xs.length - (i + 1), by omega, rfl, hlt, p'⟩, fun x H' y => ?_⟩
    obtain ⟨T, x1, rfl, hT, rfl, e1⟩ := y
    exact hs i x1 T H (e1 xs h1) p hT
  · have e : i = xs.length := by omega
    subst e
    exact .inl ⟨⟨xs, h1, Nat.le_refl _⟩, hd H p⟩
theorem dpAll_strs {K : PySem.W.Frag} {H : Hp} : ∀ zs : List Str, DpAll K H (zs.map V.str) (strsD zs)
  | [] => .nil
  | z :: zs => .cons (.str z) (dpAll_strs zs)
theorem Dp.strs {K : PySem.W.Frag} {H : Hp} {a : Addr} {zs : List Str} (h : SqL K H a (zs.map V.str)) : Dp K H (.ref a) (.list (strsD zs)) := .lst h (dpAll_strs zs)
theorem asc_sgs {cs : List Nat} (h : ∀ c ∈ cs, 97 ≤ c ∧ c ≤ 122) : ∀ z ∈ cs.map sg, Asc z := fun z hz c hc => by
  obtain ⟨d, hd, rfl⟩ := List.mem_map.mp hz
  have e : c = d := by
    have : c ∈ [d] := hc
    exact List.mem_singleton.mp this
  subst e
  have := h c hd
  omega
theorem sgs_map (cs : List Nat) : sgs cs = (cs.map sg).map V.str := by rw [List.map_map]; rfl
theorem sg_ne_iff (a b : Nat) : (!decide (V.str (sg a) = V.str (sg b))) = !decide (a = b) := by
  congr 1
  rw [decide_eq_decide]
  exact ⟨fun h => sg_inj' (V.str.inj h), fun h => by rw [h]⟩
theorem take_filter {cs : List Nat} {p : Nat → Bool} {i c : Nat} (h : cs[i]? = some c) : (cs.take (i + 1)).filter p = (cs.take i).filter p ++ if p c then [c] else [] := by
  rw [List.take_add_one, h, List.filter_append]
  congr 1
  show [c].filter p = _
  by_cases hp : p c = true
  · rw [if_pos hp, List.filter_cons, if_pos hp]; rfl
  · rw [if_neg hp, List.filter_cons, if_neg hp]; rfl
theorem cut_mid2 (x : Str) {a b : Int} (ha : 0 ≤ a) (ha2 : a ≤ x.length) (hb : 0 ≤ b) (hb2 : b ≤ x.length) : (cutS x (some a) (some b)).cps.toList = (x.cps.toList.drop a.toNat).take (b.toNat - a.toNat) := by
  rw [cut_cps, sIx_pos _ _ ha, sIx_pos _ _ hb, Nat.min_eq_left (by omega), Nat.min_eq_left (by omega)]
theorem DrawsAt.over {H : Hp} {p q : Addr} {o : HO} (h : DrawsAt H p) (n : q ≠ p) : DrawsAt (upd H q o) p := by
  obtain ⟨ns, e, z⟩ := h.ex
  exact ⟨ns, by rw [upd_ne n.symm]; exact e, z⟩
theorem cutV_one (xs : List V) : cutV xs none (some 1) = xs.take 1 := by
  cases xs with
  | nil => rfl
  | cons x xs =>
    unfold cutV
    simp [HT.sIx]
/-- some letters, sorted -/
structure SmAt (H : Hp) (m : Addr) (cs : List Nat) : Prop where
  at_ : H m = some (.lst ((cs.map sg).map V.str))
  ne : cs ≠ []
  le : cs.length ≤ 60
  ok : ∀ c ∈ cs, 97 ≤ c ∧ c ≤ 122
end L2
set_option Elab.async false
set_option linter.all false
set_option maxRecDepth 100000
set_option maxHeartbeats 8000000
namespace Lv
open PySem L2
section
variable {P : Program} {w : World} {K : PySem.W.Frag} {mg : Str → Option Value} {base : Heap} {f : Addr} {fd : FuncData}
abbrev sIsLetters : Stmt := top 5
def nIsLetters : List Str := ["thing", "at"]
theorem scIsLetters : FnScope nIsLetters ["thing"] (defScope sIsLetters) := ⟨rfl, rfl, rfl, by decide +kernel, rfl, by decide +kernel, by decide +kernel⟩
theorem ok_isletters (T : Glb mg) {c tb : Addr} (B : BModB base mg) (ck : CodeK K c tb) (hc : fd.code = .ref c) {t1 : Addr} (c_is_row : Callee P w K mg base 1 "is_row" ["thing"] (spIsRow2 K t1)) (F : Fun K "is_letters" "is_letters" sIsLetters f fd) : FnOk P w K mg base CX0 2 f fd ["thing"] (spIsLetters K t1 tb) := by
  refine F.okC hc scIsLetters (fun vs H Q E h => ?_) (fun A outer s H vs Q E hr h => ?_)
  · obtain ⟨x, rfl, _⟩ := h
    rfl
  obtain ⟨x, rfl, h⟩ := h
  have hu := hu_of hr
  refine' ⟨_, ?TT, ?RR⟩
  case TT =>
    refine' pss_cons ?x323 ?x324
    case x323 =>
     refine' ps_if ?x325 ?x326 ?x327
     case x325 =>
      refine' PW.pt ?x328
      case x328 =>
       refine' pw_or ?x329 ?x330
       case x329 =>
        refine' pt_not ?x331
        case x331 =>
         refine' pt_val ?x332
         case x332 =>
          refine' pe_callC c_is_row hr rfl ?x333
          case x333 =>
           refine' pa_Name (pv 0) ?x334
           case x334 =>
            exact pa_nil
       case x330 =>
        refine' pw_or1 ?x335
        case x335 =>
         refine' pt_not ?x336
         case x336 =>
          exact (pt_truth (pv 0) (by intro _; rfl))
     case x326 =>
      refine' pss_one ?x337
      case x337 =>
       refine' ps_ret ?x338
       case x338 =>
        exact pe_bl
     case x327 =>
      exact pss_nil
    case x324 =>
     refine' pss_one ?x339
     case x339 =>
      refine' ps_ret ?x340
      case x340 =>
       refine' pe_allG (x := "at") rfl T.m_all hr rfl ck B ?x341 (ge_ltS (ge_ixS (ge_free (i := 0)) ge_loc (fun _ _ => rfl)) (ge_ixS (ge_free (i := 0)) (ge_add ge_loc ge_int) (fun _ _ => rfl)))
       case x341 =>
        refine' pig_range1 rfl T.m_range ?x342
        case x342 =>
         refine' pa_BinOp ?x343 ?x344
         case x343 =>
          refine' pe_op op_sub ?x345 ?x346
          case x345 =>
           refine' pe_callB call_len_str rfl T.m_len PySem.boot_len ?x347
           case x347 =>
            refine' pa_Name (pv 0) ?x348
            case x348 =>
             exact pa_nil
          case x346 =>
           exact pe_int
         case x344 =>
          exact pa_nil
  case RR =>
    rcases h with ⟨z, rfl, hz, h1, h2, q⟩ | ⟨hi, q⟩ | ⟨a, rfl, ha, q⟩
    · have ez : z.length = z.cps.toList.length := len_cps z
      refine ⟨_, rfl, _, rfl, .inl ⟨z, rfl, h1, _, rfl, ?_⟩⟩
      unfold letB at q
      cases hrow : rowB z with
      | false =>
        rw [hrow] at q
        refine iteT ?_
        refine iteT ?_
        exact q
      | true =>
        rw [hrow, Bool.true_and] at q
        refine iteF ?_
        refine ⟨_, rfl, _, ⟨small80 (n := z.length) (by omega), rfl⟩, ?_⟩
        by_cases h0 : z.length = 0
        · have e0 : ((z.length : Int) != 0) = false := by rw [h0]; rfl
          rw [e0]
          refine iteT ?_
          rw [decide_eq_false (fun h => h h0)] at q
          exact q
        · have e0 : ((z.length : Int) != 0) = true := by
            rw [bne_iff_ne]; omega
          rw [e0]
          refine iteF ?_
          rw [decide_eq_true h0, Bool.true_and] at q
          refine ⟨_, rfl, z, rfl, small80 (by omega), _, _, rfl, rfl, (z.length : Int) - 1, rfl, by omega, by omega, h2, ?_⟩
          have en : ((z.length : Int) - 1).toNat = z.cps.toList.length - 1 := by omega
          rw [en]
          refine ⟨fun i => decide (z.cps.toList.getD i 0 < z.cps.toList.getD (i + 1) 0), fun i v hi hv => ?_, q⟩
          cases hv
          have g1 : z.cps.toList[i]? = some (z.cps.toList.getD i 0) := by rw [List.getD_eq_getElem?_getD, List.getElem?_eq_getElem (by omega)]; rfl
          have g2 : z.cps.toList[i + 1]? = some (z.cps.toList.getD (i + 1) 0) := by rw [List.getD_eq_getElem?_getD, List.getElem?_eq_getElem (by omega)]; rfl
          refine ⟨_, rfl, _, rfl, z, _, _, rfl, rfl, small80 (by omega), atI_nat g1, _, rfl, _, rfl, _, _, rfl, rfl, z, _, z.cps.toList.getD (i + 1) 0, rfl, rfl, small80 (by omega), ?_, _, _, rfl, rfl, ?_⟩
          · have : (i : Int) + 1 = ((i + 1 : Nat) : Int) := by omega
            rw [this]
            exact atI_nat g2
          · congr 1
            exact decide_eq_decide.mpr (lt_one _ _)
    · refine ⟨_, rfl, _, rfl, .inr (.inl ⟨hi, _, rfl, ?_⟩)⟩
      refine iteT ?_
      refine iteT ?_
      exact q
    · refine ⟨_, rfl, _, rfl, .inr (.inr ⟨a, rfl, ha, _, rfl, ?_⟩)⟩
      refine iteT ?_
      refine iteT ?_
      exact q
abbrev sHasAll : Stmt := top 10
def nHasAll : List Str := ["found", "letters", "letter"]
theorem scHasAll : FnScope nHasAll ["found", "letters"] (defScope sHasAll) := ⟨rfl, rfl, rfl, by decide +kernel, rfl, by decide +kernel, by decide +kernel⟩
theorem ok_hasall (T : Glb mg) {c tb : Addr} (B : BModB base mg) (ck : CodeK K c tb) (hc : fd.code = .ref c)  (F : Fun K "has_all" "has_all" sHasAll f fd) : FnOk P w K mg base CX0 1 f fd ["found", "letters"] (spHasAll tb) := by
  refine F.okC hc scHasAll (fun vs H Q E h => ?_) (fun A outer s H vs Q E hr h => ?_)
  · obtain ⟨u, z, rfl, _⟩ := h
    rfl
  obtain ⟨u, z, rfl, hP, h⟩ := h
  have hu := hu_of hr
  refine' ⟨_, ?TT, ?RR⟩
  case TT =>
    refine' pss_one ?x349
    case x349 =>
     refine' ps_ret ?x350
     case x350 =>
      refine' pe_allG (x := "letter") rfl T.m_all hr rfl ck B ?x351 (ge_in ge_loc (ge_free (i := 0)))
      case x351 =>
       exact (pig_str hr.hd (pv 1))
  case RR =>
    refine ⟨_, rfl, z, rfl, hP, ?_⟩
    rcases h with ⟨y, rfl, q⟩ | ⟨d, kvs, rfl, hd, q⟩
    · refine ⟨fun i => match z.cps.toList[i]? with | some c => decide (c ∈ y.cps.toList) | none => true, fun i v hi hv => ?_, ?_⟩
      · obtain ⟨c, hc, rfl⟩ := Option.map_eq_some_iff.mp hv
        refine ⟨_, rfl, _, rfl, c, rfl, .inl ⟨y, rfl, ?_⟩⟩
        simp only [hc]
      · rw [all_at z.cps.toList (fun c => decide (c ∈ y.cps.toList)) _ fun j c hj => by simp only [hj]]
        exact q
    · refine ⟨fun i => match z.cps.toList[i]? with | some c => (valV kvs (Sum.inr (sg c))).isSome | none => true, fun i v hi hv => ?_, ?_⟩
      · obtain ⟨c, hc, rfl⟩ := Option.map_eq_some_iff.mp hv
        refine ⟨_, rfl, _, rfl, c, rfl, .inr ⟨d, kvs, rfl, hd, ?_⟩⟩
        simp only [hc]
      · rw [all_at z.cps.toList (fun c => (valV kvs (Sum.inr (sg c))).isSome) _ fun j c hj => by simp only [hj]]
        exact q
abbrev sIsPlace : Stmt := top 7
def nIsPlace : List Str := ["thing", "many"]
theorem scIsPlace : FnScope nIsPlace ["thing", "many"] (defScope sIsPlace) := ⟨rfl, rfl, rfl, by decide +kernel, rfl, by decide +kernel, by decide +kernel⟩
abbrev sLawArches : Stmt := top 18
def nLawArches : List Str := ["row", "letters", "found", "missing", "place", "letter"]
theorem scLawArches : FnScope nLawArches ["row", "letters"] (defScope sLawArches) := ⟨rfl, rfl, rfl, by decide +kernel, rfl, by decide +kernel, by decide +kernel⟩
theorem ok_larches (T : Glb mg)  (F : Fun K "_law_arches" "_law_arches" sLawArches f fd) : FnOk P w K mg base CX0 1 f fd ["row", "letters"] spArchesL := by
  refine F.ok scLawArches (fun vs H Q E h => ?_) (fun cdv A outer s H vs Q E hr h => ?_)
  · obtain ⟨z, l, rfl, _⟩ := h
    rfl
  obtain ⟨z, l, rfl, hz, hl, hll, q⟩ := h
  have hu := hu_of hr
  refine' ⟨_, ?TT, ?RR⟩
  case TT =>
    refine' pss_cons ?x417 ?x418
    case x417 =>
     refine' ps_set (i := 2) scLawArches.nd rfl (Or.inl rfl) ?x419
     case x419 =>
      refine' pe_lst ?x420
      case x420 =>
       exact pa_nil
    case x418 =>
     refine' pss_cons ?x421 ?x422
     case x421 =>
      refine' ps_set (i := 3) scLawArches.nd rfl (Or.inl rfl) ?x423
      case x423 =>
       refine' pe_callTy (cr_listS rfl) rfl T.m_list (by decide +kernel) ?x424
       case x424 =>
        refine' pa_Name (pv 1) ?x425
        case x425 =>
         exact pa_nil
     case x422 =>
      refine' pss_cons ?x426 ?x427
      case x426 =>
       refine' ps_for PassesOwn.never rfl ?x428 (pg_name (i := 4) scLawArches.nd rfl (Or.inr rfl)) ?x429
       case x428 =>
        refine' pi_range1 rfl T.m_range ?x430
        case x430 =>
         refine' pa_Call ?x431 ?x432
         case x431 =>
          refine' pe_callB call_len_str rfl T.m_len PySem.boot_len ?x433
          case x433 =>
           refine' pa_Name (pv 0) ?x434
           case x434 =>
            exact pa_nil
         case x432 =>
          exact pa_nil
       case x429 =>
        refine' pss_cons ?x435 ?x436
        case x435 =>
         refine' ps_setLc (i := 3) (own := [("letter", 5)]) (g := gName 5) (by rfl) scLawArches.nd rfl rfl (sw_true rfl rfl rfl (by decide +kernel)) ?x437 (blkOk_by (own := [("letter", 5)]) (N := nLawArches) (sc := defScope sLawArches) (by decide +kernel)) (fun _ _ _ _ _ => pg_name (i := 5) scLawArches.nd rfl (Or.inl rfl)) ?x438 (fun _ _ _ _ _ => (pv 5))
         case x437 =>
          exact (pi_list (pv 3))
         case x438 =>
          intro _ _ _ _ _
          exact pts_one (pt_cmpR op_ne (pv 5) (pe_ix ix_str (pv 0) (pv 4) (fun _ _ => rfl)) (nomark _))
        case x436 =>
         refine' pss_one ?x439
         case x439 =>
          refine' ps_if ?x440 ?x441 ?x442
          case x440 =>
           refine' pt_cmpR (op_eqD hr.units) (pv 3) ?x443 (nomark _)
           case x443 =>
            refine' pe_lst ?x444
            case x444 =>
             exact pa_nil
          case x441 =>
           refine' pss_cons ?x445 ?x446
           case x445 =>
            refine' ps_expr ?x447
            case x447 =>
             refine' pe_bm PySem.F.plainAttrs_list PySem.F.slot_list_append PySem.F.type_list_append mt_append (pv 2) ?x448
             case x448 =>
              refine' pa_BinOp ?x449 ?x450
              case x449 =>
               refine' pe_op op_add (pv 4) ?x451
               case x451 =>
                exact pe_int
              case x450 =>
               exact pa_nil
           case x446 =>
            refine' pss_one ?x452
            case x452 =>
             refine' ps_set (i := 3) scLawArches.nd rfl (Or.inl rfl) ?x453
             case x453 =>
              refine' pe_callTy (cr_listS rfl) rfl T.m_list (by decide +kernel) ?x454
              case x454 =>
               refine' pa_Name (pv 1) ?x455
               case x455 =>
                exact pa_nil
          case x442 =>
           exact pss_nil
      case x427 =>
       refine' pss_one ?x456
       case x456 =>
        exact (ps_ret (pv 2))
  case RR =>
    have ez : z.length = z.cps.toList.length := len_cps z
    have el : l.length = l.cps.toList.length := len_cps l
    refine ⟨(by show 0 ≤ sizeLine; decide), fun m nm => ?_⟩
    generalize jm : upd _ m _ = G1
    have sm := upS jm nm; have em := upE jm
    refine ⟨_, rfl, l, rfl, small80 (by omega), fun ms0 nms => ?_⟩
    generalize jn : upd _ ms0 _ = G2
    have sn := upS jn nms; have en := upE jn
    rw [sgs_map] at en
    refine ⟨_, rfl, z, rfl, small80 (by omega), (z.length : Int), rfl, by omega, by omega, ?_⟩
    have et : ((z.length : Int)).toNat = z.cps.toList.length := by omega
    rw [et]
    have n0 : ms0 ≠ m := (ne_of_none em nms).symm
    refine for_range (lo := 0) (n := z.cps.toList.length) (fun t σ H1 => ∃ (x : Addr) (v4 : Option V) (F M : List Nat), σ = [some (.str z), some (.str l), some (.ref m), some (.ref x), v4, none] ∧ arE l.cps.toList z.cps.toList l.cps.toList 0 = F ++ arE l.cps.toList (z.cps.toList.drop t) M t ∧ Same H H1 ∧ H1 m = some (.lst (nInt F)) ∧ x ≠ m ∧ H1 x = some (.lst ((M.map sg).map V.str)) ∧ M.length ≤ 26 ∧ ∀ c ∈ M, 97 ≤ c ∧ c ≤ 122) ?_ ?_ ?_
    · exact ⟨ms0, none, [], l.cps.toList, rfl, by rw [List.drop_zero]; rfl, sm.trans sn, sn _ _ em, n0, en, by omega, hl⟩
    · rintro t σ H1 ht ⟨x, v4, F, M, rfl, hF, s1, hm1, hxm, hx1, hMl, hMo⟩
      have e0 : (0 : Int) + (t : Nat) = ((t : Nat) : Int) := by omega
      rw [e0]
      obtain ⟨c, hc⟩ : ∃ c, z.cps.toList[t]? = some c := ⟨_, List.getElem?_eq_getElem ht⟩
      refine ⟨_, rfl, x, rfl, ⟨_, SqL.of hx1⟩, fun D nD => ?_⟩
      refine lc_list (K := K) (a := x) (xs := (M.map sg).map V.str) (fun i H5 => Same H1 H5 ∧ H5 D = some (.lst ((((M.take i).filter fun d => !decide (d = c)).map sg).map V.str))) ?_ ?_ ?_ ?_
      · exact ⟨same_new nD _, by rw [upd_same, List.take_zero]; rfl⟩
      · rintro i H5 _ ⟨s5, _⟩
        exact SqL.of (s5 _ _ hx1)
      · rintro i v H5 hv ⟨s5, h5⟩
        rw [List.getElem?_map, List.getElem?_map, Option.map_map] at hv
        obtain ⟨d, hd, rfl⟩ := Option.map_eq_some_iff.mp hv
        refine ⟨rfl, ?_⟩
        refine ⟨_, rfl, _, rfl, _, rfl, z, _, c, rfl, rfl, small80 (by omega), atI_nat hc, rfl, _, rfl, ?_⟩
        show (if (!decide (V.str (sg d) = V.str (sg c))) = true then _ else _)
        rw [sg_ne_iff]
        refine ite2 (fun h => ?_) (fun h => ?_)
        · refine ⟨_, rfl, _, h5, ?_, fun b o e => by rw [upd_ne (ne_of_none e nD)]; exact s5 b o e, ?_⟩
          · rw [List.length_map, List.length_map]
            exact small1000 (Nat.le_trans (List.length_filter_le _ _) (by rw [List.length_take]; omega))
          · rw [upd_same, take_filter hd, if_pos h, List.map_append, List.map_append]; rfl
        · refine ⟨s5, ?_⟩
          rw [take_filter hd, if_neg h, List.append_nil]; exact h5
      rintro H5 ⟨s5, h5⟩
      rw [List.length_map, List.length_map, List.take_length] at h5
      generalize hM' : (M.filter fun d => !decide (d = c)) = M' at h5
      have hMl' : M'.length ≤ 26 := by rw [← hM']; exact Nat.le_trans (List.length_filter_le _ _) hMl
      have hMo' : ∀ d ∈ M', 97 ≤ d ∧ d ≤ 122 := fun d hd => by rw [← hM'] at hd; exact hMo d (List.mem_filter.mp hd).1
      have hstep := arE_cat l.cps.toList M t hc
      rw [hM'] at hstep
      have nD0 : H D = none := s1.free nD
      have hDm : D ≠ m := (ne_of_none hm1 nD).symm
      have hm5 := s5 _ _ hm1
      refine ⟨_, rfl, (by show 0 ≤ sizeLine; decide), fun l0 nl0 => ?_⟩
      have s6 := same_new nl0 (.lst [])
      generalize j0 : upd _ l0 _ = G6 at s6
      have e6 := upE j0
      refine ⟨_, _, Dp.strs (SqL.of (s6 _ _ h5)), Dp.strs (zs := []) (SqL.of e6), shaped_strs _ (asc_sgs hMo'), shaped_strs [] (fun _ h => nomatch h), _, rfl, ?_⟩
      have hm6 := s6 _ _ hm5
      have sH6 : Same H G6 := s1.trans (s5.trans s6)
      have ev : PyData.eqv (.list (strsD (M'.map sg))) (.list (strsD [])) = decide (M' = []) := by
        rw [show strsD [] = [] from rfl, eqv_strs_nil, decide_eq_decide]
        exact List.map_eq_nil_iff
      rw [ev]
      refine ite2 (fun h => ?_) (fun h => ?_)
      · have hnil : M' = [] := of_decide_eq_true h
        rw [if_pos hnil] at hstep
        have hFl : F.length ≤ z.cps.toList.length := by
          have h1 := arE_len l.cps.toList z.cps.toList l.cps.toList 0
          rw [hF, List.length_append] at h1
          omega
        refine ⟨_, rfl, .inl ⟨rfl, _, SqL.of hm6⟩, _, rfl, _, _, rfl, rfl, m, _, _, rfl, rfl, hm6, by rw [List.length_map]; exact small1000 (by omega), ?_⟩
        have k7 : Kp m G6 (upd G6 m (.lst (nInt F ++ [.int ((t : Int) + 1)]))) := (Kp.refl _ _).set
        have e7 : (upd G6 m (.lst (nInt F ++ [.int ((t : Int) + 1)]))) m = some (.lst (nInt (F ++ [t + 1]))) := by
          rw [upd_same]
          have : ((t : Int) + 1) = ((t + 1 : Nat) : Int) := by omega
          rw [this, nInt_snoc]
        generalize upd G6 m (.lst (nInt F ++ [.int ((t : Int) + 1)])) = G7 at k7 e7
        refine ⟨_, rfl, l, rfl, small80 (by omega), fun x2 nx2 => ?_⟩
        have s8 := same_new nx2 (.lst (sgs l.cps.toList))
        refine ⟨x2, _, F ++ [t + 1], l.cps.toList, rfl, ?_, fun b o e => s8 _ _ (k7 _ _ (sH6 b o e) (ne_of_none e nm)), s8 _ _ e7, (ne_of_none e7 nx2).symm, by rw [upd_same, sgs_map], by omega, hl⟩
        rw [hF, hstep, List.append_assoc]; rfl
      · have hnil : ¬ M' = [] := fun e => h (decide_eq_true e)
        rw [if_neg hnil] at hstep
        refine ⟨D, _, F, M', rfl, by rw [hF, hstep], sH6, hm6, hDm, s6 _ _ h5, hMl', hMo'⟩
    · rintro σ H1 ⟨x, v4, F, M, rfl, hF, s1, hm1, _⟩
      rw [List.drop_length] at hF
      have hF' : arE l.cps.toList z.cps.toList l.cps.toList 0 = F := by rw [hF]; exact List.append_nil _
      refine ⟨_, rfl, q m H1 s1 nm ?_⟩
      rw [hF']; exact hm1
abbrev sShows : Stmt := top 9
def nShows : List Str := ["row", "letters", "thing", "start", "end"]
theorem scShows : FnScope nShows ["row", "letters", "thing"] (defScope sShows) := ⟨rfl, rfl, rfl, by decide +kernel, rfl, by decide +kernel, by decide +kernel⟩
end
end Lv
set_option Elab.async false
set_option linter.all false
set_option maxRecDepth 100000
set_option maxHeartbeats 3200000
namespace L2
open PySem PySem.Spec PyProof.Rows
theorem owner_si : Manifest.owners.lookup (String.ofList ['r', 'o', 't', 'a', 'r', 'e', 't', 'i', '_', 't', 'e', 's'].reverse) = some Manifest.sig_set_iterator := by kernel_rfl
theorem slot_si_next : Slot "set_iterator" "__next__" "set_iterator.__next__" :=
  .of (owner := "set_iterator") (n := "__next__") (by rw [typeLookup_type, builtinLookup_eq_fast]; kernel_rfl) (by decide +kernel) (by decide +kernel) (by decide +kernel)
    (by first | exact .inl (by decide +kernel) | exact .inr (by decide +kernel)) (by rw [isSubtype_type]; kernel_rfl)
theorem entry_si_next : entryFor table "set_iterator.__next__" = some Builtin.«set_iterator.__next__» := entryFor_of_tree (by kernel_rfl)
theorem args_si_next (a : Value) : argsOk "set_iterator.__next__" ⟨[a], []⟩ := by
  unfold argsOk; rw [signature?_of (id := "set_iterator.__next__") (n := ['_', '_', 't', 'x', 'e', 'n', '_', '_']) (o := ['r', 'o', 't', 'a', 'r', 'e', 't', 'i', '_', 't', 'e', 's']) (by kernel_rfl) owner_si]; kernel_rfl
theorem slot_si_iter : Slot "set_iterator" "__iter__" "set_iterator.__iter__" :=
  .of (owner := "set_iterator") (n := "__iter__") (by rw [typeLookup_type, builtinLookup_eq_fast]; kernel_rfl) (by decide +kernel) (by decide +kernel) (by decide +kernel)
    (by first | exact .inl (by decide +kernel) | exact .inr (by decide +kernel)) (by rw [isSubtype_type]; kernel_rfl)
theorem args_si_iter (a : Value) : argsOk "set_iterator.__iter__" ⟨[a], []⟩ := by
  unfold argsOk; rw [signature?_of (id := "set_iterator.__iter__") (n := ['_', '_', 'r', 'e', 't', 'i', '_', '_']) (o := ['r', 'o', 't', 'a', 'r', 'e', 't', 'i', '_', 't', 'e', 's']) (by kernel_rfl) owner_si]; kernel_rfl
theorem entry_si_iter : entryFor table "set_iterator.__iter__" = some Builtin.«dict_keyiterator.__iter__» :=
  entryFor_alias (id' := "dict_keyiterator.__iter__") (by kernel_rfl) (by first | rfl | decide +kernel | (unfold String.splitOn; simp +decide [String.splitOnAux])) (by decide +kernel) (by kernel_rfl)
theorem entry_set_it : entryFor table "set.__iter__" = some Builtin.«frozenset.__iter__» :=
  entryFor_alias (id' := "frozenset.__iter__") (by kernel_rfl) (by first | rfl | decide +kernel | (unfold String.splitOn; simp +decide [String.splitOnAux])) (by decide +kernel) (by kernel_rfl)
theorem set_len : typeLookup (.type "set") "__len__" = pure (some (.builtin "set.__len__")) := by rw [typeLookup_type, builtinLookup_eq_fast]; kernel_rfl
section
variable {prog : Program} {w : World} {A : Around} {E : Value → Shared → Prop} {s : Shared}
theorem cons_erase_perm {α : Type} : ∀ {l : List α} {i : Nat} (h : i < l.length), (l[i] :: l.eraseIdx i).Perm l
  | a :: l, 0, _ => .rfl
  | a :: l, i + 1, h => by
    have h' : i < l.length := by simpa using h
    exact (List.Perm.swap a l[i] (l.eraseIdx i)).trans ((cons_erase_perm h').cons a)
theorem pick_go {α : Type} (next : Nat → Nat) : ∀ (fuel k : Nat) (left : List α) (out : Array α), left.length ≤ fuel → (pickOrder.go next fuel k left out).toList.Perm (out.toList ++ left)
  | 0, k, left, out, h => by
    have e : left = [] := List.eq_nil_of_length_eq_zero (by omega)
    subst e
    unfold pickOrder.go
    rw [List.append_nil]
  | fuel + 1, k, [], out, h => by
    unfold pickOrder.go
    simp
  | fuel + 1, k, x :: xs, out, h => by
    unfold pickOrder.go
    have hi : next k % (x :: xs).length < (x :: xs).length := Nat.mod_lt _ (by simp)
    rw [List.getElem?_eq_getElem hi]
    dsimp only
    refine (pick_go next fuel (k + 1) _ _ (by rw [List.length_eraseIdx_of_lt hi]; simp at h ⊢; omega)).trans ?_
    rw [Array.toList_push, List.append_assoc]
    exact List.Perm.append_left _ (cons_erase_perm hi)
theorem pick_perm {α : Type} (next : Nat → Nat) (xs : Array α) : (pickOrder next xs).toList.Perm xs.toList := by
  have := pick_go next xs.size 0 xs.toList #[] (by rw [Array.length_toList]; exact Nat.le_refl _)
  exact this
theorem wp_choose {src : Source} {n : Nat} {Q : Nat → Shared → Prop} (hn : n ≠ 0) (h : ∀ i, i < n → Q i { s with drawn := s.drawn.bump src }) : wpAny (model prog w) A (choose src n) Q E s :=
  fun _ _ _ => ⟨hn, h _ (Nat.mod_lt _ (Nat.pos_of_ne_zero hn))⟩
theorem draw_perm {α : Type} : ∀ (n : Nat) (xs : List α) (s : Shared) (Q : List α → Shared → Prop), n = xs.length → (∀ ys d, ys.Perm xs → Q ys { s with drawn := d }) → wpAny (model prog w) A (drawOrder n xs) Q E s
  | 0, xs, s, Q, hn, h => by
    have e : xs = [] := List.eq_nil_of_length_eq_zero hn.symm
    subst e
    unfold drawOrder
    exact wpAny_pure (h [] s.drawn .rfl)
  | n + 1, [], s, Q, hn, h => by simp at hn
  | n + 1, x :: xs, s, Q, hn, h => by
    unfold drawOrder
    refine wpAny_bind (wp_choose (by simp) fun i hi => ?_)
    rw [List.getElem?_eq_getElem hi]
    dsimp only
    refine wpAny_bind (draw_perm n ((x :: xs).eraseIdx i) _ _ ?_ fun ys d hp => wpAny_pure ?_)
    · rw [List.length_eraseIdx_of_lt hi]
      simp at hn ⊢
      omega
    · exact h _ d ((hp.cons _).trans (cons_erase_perm hi))
/-- the set iterator -/
abbrev SI (h : Heap) (I S : Addr) (first : Value) (i : Int) (n ep : Nat) : Prop := h.get? I = some { cls := .type "set_iterator", dict := none, data := .fields #[first, rawInt i, .ref S, rawInt n, rawInt ep], slots := #[] }
structure SO (h : Heap) (S : Addr) (ea : Array (Int × Value)) (ep : Nat) (t : SetTable) : Prop where
  ex : ∃ o : Obj, h.get? S = some o ∧ o.data = .set ea ep t
  ft : t.fits ea.size = true
theorem SO.at {h h' : Heap} {S : Addr} {ea : Array (Int × Value)} {ep : Nat} {t : SetTable} (x : SO h S ea ep t) (k : ∀ o, h.get? S = some o → h'.get? S = some o) : SO h' S ea ep t := by
  obtain ⟨⟨o, a, b⟩, c⟩ := x
  exact ⟨⟨o, k _ a, b⟩, c⟩
theorem SO.state {S : Addr} {ea : Array (Int × Value)} {ep : Nat} {t : SetTable} {Q : (Array (Int × Value) × Nat × SetTable) → Shared → Prop} (x : SO s.heap S ea ep t) (h : Q (ea, ep, t) s) : wpAny (model prog w) A (setState S) Q E s := by
  obtain ⟨⟨o, a, b⟩, c⟩ := x
  exact wpAny_setState_of a b c h
theorem stop_now {α : Type} {Q : α → Shared → Prop} {E' : Value → Shared → Prop} (hh : A.handled = none) (h : ∀ h' e, (∀ b o, s.heap.get? b = some o → h'.get? b = some o) → (∃ o, h'.get? e = some o ∧ o.cls = .type "StopIteration") → E' (.ref e) { s with heap := h' }) :
    wpAny (model prog w) A (newExc (.type "StopIteration") [] >>= fun e => (raiseNew e : Sem α)) Q E' s := by
  refine wpAny_bind ?_
  simp only [newExc, newTuple]
  refine wpAny_bind (wpAny_newObj_type ?_ (by size_fits))
  refine wpAny_bind (m := firstArgMember _ _) (wpAny_of_eq (a := Value.none) (by first | rfl | (simp only [firstArgMember]; rfl)) ?_)
  refine wpAny_newObj_type ?_ (by size_fits)
  refine wpAny_raiseNew_none hh ?_
  exact h _ _ (fun b o e => Heap.get?_push_of_some _ (Heap.get?_push_of_some _ e)) ⟨_, Heap.get?_push_size _ rfl, rfl⟩
def vAt (ea : Array (Int × Value)) (j : Nat) : Option Value := (ea[j]?).map Prod.snd
theorem vAt_lt {ea : Array (Int × Value)} {j : Nat} (h : j < ea.size) : vAt ea j = some ea[j].2 := by unfold vAt; rw [Array.getElem?_eq_getElem h]; rfl
/-- the three ways of walking: what is told at i -/
inductive How (w : World) (h : Heap) (S : Addr) (ea : Array (Int × Value)) (ep : Nat) (t : SetTable) : Value → Nat → List Value → Prop
  | drawn (T : Addr) (ord : List Nat) (i : Nat) : h.get? T = some { cls := .type "tuple", data := .seq (ord.map fun (j : Nat) => rawInt j).toArray } → (∀ j ∈ ord, j < ea.size) → How w h S ea ep t (.ref T) i (ord.filterMap (vAt ea))
  | text (i : Nat) : w.params.followText "set-order" = true → How w h S ea ep t (rawInt 0) i ((pickOrder (w.params.setOrder S ep) ea).toList.map (·.2))
  | none : w.params.followText "set-order" = false → ea.size = 0 → How w h S ea ep t (rawInt 0) 0 []
  | one0 (x : Int × Value) : w.params.followText "set-order" = false → ea = #[x] → t.led = true → How w h S ea ep t (rawInt 0) 0 [x.2]
  | one1 (x : Int × Value) (j : Nat) : w.params.followText "set-order" = false → ea = #[x] → t.led = true → t.place = #[j] → How w h S ea ep t (rawInt (j + 1)) 1 [x.2]
theorem below_one (j : Nat) (d : Nat) : SetTable.below #[j] d = if j < d then 1 else 0 := by
  unfold SetTable.below
  show SetTable.below.go #[j] d 1 0 1 = _
  unfold SetTable.below.go
  rw [if_pos (by decide)]
  show (if (#[j] : Array Nat).getD ((0 + 1) / 2) d < d then SetTable.below.go #[j] d 0 ((0 + 1) / 2 + 1) 1 else SetTable.below.go #[j] d 0 0 ((0 + 1) / 2)) = _
  show (if j < d then SetTable.below.go #[j] d 0 (0 + 1) 1 else SetTable.below.go #[j] d 0 0 0) = _
  split <;> rfl
theorem byText_ {Q : Bool → Shared → Prop} (h : Q (w.params.followText "set-order") s) : wpAny (model prog w) A setsByText Q E s := by
  unfold setsByText
  exact wpAny_bind (wpAny_askSetting (wpAny_pure h))
/-- one step of the code behind the fields -/
theorem si_next {I S : Addr} {first : Value} {i n ep : Nat} {ea : Array (Int × Value)} {t : SetTable} {ws : List Value} {x : Value} {Q : Option Value → Shared → Prop}
    (hI : SI s.heap I S first i n ep) (hS : SO s.heap S ea ep t) (hn : ea.size = n) (hw : How w s.heap S ea ep t first i ws) (hne : S ≠ I) (hTI : ∀ T, first = .ref T → T ≠ I) (hx : ws[i]? = some x)
    (hQ : ∀ h' first', SI h' I S first' ((i : Int) + 1) n ep → Heap.SameBut I s.heap h' → How w h' S ea ep t first' (i + 1) ws → (∀ T, first' = .ref T → first = .ref T) → Q (some x) { s with heap := h' }) :
    wpAny (model prog w) A (pyNext (.ref I)) Q E s := by
  have hT : s.TypeIs (.ref I) "set_iterator" := ⟨_, hI, rfl⟩
  unfold pyNext
  refine wpAny_bind (wpAny_attempt (wpAny_callSpecial?_slot (name := Str.ofString "__next__") hT slot_si_next (wpAny_call_entry slot_si_next hT entry_si_next ?_ (args_si_next _))))
  unfold Builtin.«set_iterator.__next__»
  refine wpAny_bind (wpAny_of_eq (a := (Value.ref I, [])) rfl ?_)
  dsimp only
  refine wpAny_bind (wpAny_fieldsOf hI rfl ?_)
  dsimp only
  unfold setEntries
  refine wpAny_bind (wpAny_bind (hS.state (wpAny_pure ?_)))
  dsimp only
  refine wpAny_ite_split (fun hab => absurd hab (by rw [hn]; simp)) fun _ => ?_
  cases hw with
  | drawn T ord i hTt hord =>
    dsimp only
    refine wpAny_bind (wpAny_seqItems hTt rfl ?_)
    dsimp only
    obtain ⟨j, hj, hjx⟩ : ∃ j, ord[i]? = some j ∧ vAt ea j = some x := by
      have key : ∀ (l : List Nat) (i : Nat), (∀ j ∈ l, j < ea.size) → (l.filterMap (vAt ea))[i]? = some x → ∃ j, l[i]? = some j ∧ vAt ea j = some x := by
        intro l
        induction l with
        | nil => intro i _ h; simp at h
        | cons a l ih =>
          intro i hb h
          have ha := hb a (List.mem_cons_self ..)
          have e := vAt_lt ha
          rw [List.filterMap_cons_some e] at h
          cases i with
          | zero => exact ⟨a, rfl, by rw [e]; simpa using h⟩
          | succ i => exact ih i (fun j hj => hb j (List.mem_cons_of_mem _ hj)) (by simpa using h)
      exact key ord i hord hx
    have hp : ((ord.map fun (j : Nat) => rawInt j).toArray)[((i : Int)).toNat]? = some (rawInt j) := by
      rw [Int.toNat_natCast, List.getElem?_toArray, List.getElem?_map, hj]; rfl
    rw [hp]
    show wpAny _ _ (setNextDrawn S ((j : Int)).toNat ((ep : Int)).toNat >>= _) _ _ _
    rw [Int.toNat_natCast, Int.toNat_natCast]
    unfold setNextDrawn
    refine wpAny_bind (wpAny_bind (hS.state ?_))
    dsimp only
    refine wpAny_ite_split (fun hab => absurd hab (by simp)) fun _ => ?_
    obtain ⟨e0, he0, he1⟩ := Option.map_eq_some_iff.mp hjx
    rw [he0]
    dsimp only
    refine wpAny_pure ?_
    refine wpAny_bind (wpAny_setField_rec hI (by simp) fun h1 hI1 hs1 => ?_)
    replace hI1 : SI h1 I S (.ref T) ((i : Int) + 1) n ep := hI1
    have hTh : h1.get? T = some { cls := .type "tuple", data := .seq (ord.map fun (j : Nat) => rawInt j).toArray } := (hs1.2 T (hTI T rfl)).trans hTt
    refine wpAny_pure ⟨_, rfl, wpAny_pure ?_⟩
    rw [he1]
    exact hQ h1 _ hI1 hs1 (.drawn T ord (i + 1) hTh hord) fun T e => e
  | text i hb =>
    show wpAny _ _ (setNext S 0 ((i : Int)).toNat ((ep : Int)).toNat >>= _) _ _ _
    rw [Int.toNat_natCast, Int.toNat_natCast]
    refine wpAny_bind ?_
    unfold setNext
    refine wpAny_bind (hS.state ?_)
    dsimp only
    refine wpAny_bind (byText_ ?_)
    rw [hb]
    simp only [if_true]
    refine wpAny_ite_split (fun hab => absurd hab (by simp)) fun _ => ?_
    refine wpAny_bind ?_
    unfold setWalk
    refine wpAny_bind (hS.state ?_)
    dsimp only
    refine wpAny_bind (byText_ ?_)
    rw [hb]
    simp only [if_true]
    refine wpAny_bind (wpAny_askSetting (wpAny_pure ?_))
    obtain ⟨e0, he0, he1⟩ : ∃ e0, (pickOrder (w.params.setOrder S ep) ea)[i]? = some e0 ∧ e0.2 = x := by
      rw [List.getElem?_map, Array.getElem?_toList] at hx
      exact Option.map_eq_some_iff.mp hx
    refine wpAny_pure ?_
    show wpAny _ _ (match ((pickOrder (w.params.setOrder S ep) ea)[i]?).map (fun e => (e.2, 0)) with | some (x, next) => _ | none => _) _ _ _
    rw [he0]
    show wpAny _ _ (setField (.ref I) 0 (rawInt ((0 : Nat) : Int)) >>= _) _ _ _
    refine wpAny_bind (wpAny_setField_rec hI (by simp) fun h1 hI1 hs1 => ?_)
    replace hI1 : SI h1 I S (rawInt 0) i n ep := hI1
    refine wpAny_bind (wpAny_setField_rec (s := { s with heap := h1 }) hI1 (by simp) fun h2 hI2 hs2 => ?_)
    replace hI2 : SI h2 I S (rawInt 0) ((i : Int) + 1) n ep := hI2
    refine wpAny_pure ⟨_, rfl, wpAny_pure ?_⟩
    rw [he1]
    exact hQ h2 _ hI2 (hs1.trans hs2) (.text (i + 1) hb) (fun T e => by cases e)
  | none hb h0 => simp at hx
  | one0 x0 hb h0 hl =>
    have ex : x0.2 = x := by simpa using hx
    subst h0
    obtain ⟨j, hpl⟩ : ∃ j, t.place = #[j] := by
      have := hS.ft
      simp only [SetTable.fits, Bool.and_eq_true, beq_iff_eq] at this
      have h1 : t.place.size = 1 := this.1
      obtain ⟨l, hl⟩ : ∃ l, l = t.place.toList := ⟨_, rfl⟩
      match l, hl with
      | [], hl => rw [← Array.length_toList, ← hl] at h1; cases h1
      | [a], hl => exact ⟨a, Array.toList_inj.mp hl.symm⟩
      | a :: b :: r, hl => rw [← Array.length_toList, ← hl] at h1; simp at h1
    show wpAny _ _ (setNext S 0 0 ((ep : Int)).toNat >>= _) _ _ _
    refine wpAny_bind ?_
    unfold setNext
    refine wpAny_bind (hS.state ?_)
    dsimp only
    refine wpAny_bind (byText_ ?_)
    rw [hb]
    simp only [Bool.false_eq_true, if_false]
    refine wpAny_ite_split (fun hab => absurd (show (!t.plain && decide (1 > 1)) = true from hab) (by simp)) fun _ => ?_
    refine wpAny_bind (show wpAny _ _ (if (!t.led && !(#[x0] : Array (Int × Value)).isEmpty) = true then unsupported "set:maker-not-led" else pure PUnit.unit) _ _ _ from ?_)
    refine wpAny_ite_split (fun hab => absurd hab (by rw [hl]; simp)) fun _ => wpAny_pure ?_
    refine wpAny_pure ?_
    rw [hpl, below_one, if_neg (by omega)]
    show wpAny _ _ (setField (.ref I) 0 (rawInt ((j + 1 : Nat) : Int)) >>= _) _ _ _
    refine wpAny_bind (wpAny_setField_rec hI (by simp) fun h1 hI1 hs1 => ?_)
    replace hI1 : SI h1 I S (rawInt ((j + 1 : Nat) : Int)) ((0 : Nat) : Int) n ep := hI1
    refine wpAny_bind (wpAny_setField_rec (s := { s with heap := h1 }) hI1 (by simp) fun h2 hI2 hs2 => ?_)
    replace hI2 : SI h2 I S (rawInt ((j + 1 : Nat) : Int)) (((0 : Nat) : Int) + 1) n ep := hI2
    refine wpAny_pure ⟨_, rfl, wpAny_pure ?_⟩
    rw [ex]
    exact hQ h2 _ hI2 (hs1.trans hs2) (.one1 x0 j hb rfl hl hpl) (fun T e => by cases e)
  | one1 x0 j hb h0 hl hp => simp at hx
theorem si_end {I S : Addr} {first : Value} {i n ep : Nat} {ea : Array (Int × Value)} {t : SetTable} {ws : List Value} {Q : Option Value → Shared → Prop} (hh : A.handled = none)
    (hI : SI s.heap I S first i n ep) (hS : SO s.heap S ea ep t) (hn : ea.size = n) (hw : How w s.heap S ea ep t first i ws) (hx : ws[i]? = none)
    (hQ : ∀ h', (∀ b o, b ≠ I → s.heap.get? b = some o → h'.get? b = some o) → Q none { s with heap := h' }) :
    wpAny (model prog w) A (pyNext (.ref I)) Q E s := by
  have hT : s.TypeIs (.ref I) "set_iterator" := ⟨_, hI, rfl⟩
  unfold pyNext
  refine wpAny_bind (wpAny_attempt (wpAny_callSpecial?_slot (name := Str.ofString "__next__") hT slot_si_next (wpAny_call_entry slot_si_next hT entry_si_next ?_ (args_si_next _))))
  unfold Builtin.«set_iterator.__next__»
  refine wpAny_bind (wpAny_of_eq (a := (Value.ref I, [])) rfl ?_)
  dsimp only
  refine wpAny_bind (wpAny_fieldsOf hI rfl ?_)
  dsimp only
  unfold setEntries
  refine wpAny_bind (wpAny_bind (hS.state (wpAny_pure ?_)))
  dsimp only
  refine wpAny_ite_split (fun hab => absurd hab (by rw [hn]; simp)) fun _ => ?_
  have fin : ∀ (first' : Value) (h0 : Heap), SI h0 I S first' i n ep → (∀ b o, b ≠ I → s.heap.get? b = some o → h0.get? b = some o) →
      wpAny (model prog w) A.in1 (setField (.ref I) 2 .none >>= fun _ => newExc (.type "StopIteration") [] >>= fun e => (raiseNew e : Sem Fin))
        (fun fin s' => ∃ v, fin = Fin.done (.ret v) ∧ wpAny (model prog w) A (pure (some v)) Q E s') (fun e s' => wpAny (model prog w) A (do
          if (← isInstance e (.type "StopIteration")) = true then pure Option.none else throw e) Q E s') { s with heap := h0 } := by
    intro first' h0 hI0 hk
    refine wpAny_bind (wpAny_setField_rec (s := { s with heap := h0 }) hI0 (by simp) fun h1 hI1 hs1 => ?_)
    refine stop_now (s := { s with heap := h1 }) hh fun h' e hk' hex => ?_
    obtain ⟨o, ho, hc⟩ := hex
    refine wpAny_bind (wpAny_isInstance (T := "StopIteration") (b := true) ⟨o, ho, hc⟩ isSubtype_stop ?_)
    exact wpAny_pure (hQ _ fun b o hb e' => hk' b o (hs1.extBut b o hb (hk b o hb e')))
  cases hw with
  | drawn T ord i hTt hord =>
    dsimp only
    refine wpAny_bind (wpAny_seqItems hTt rfl ?_)
    dsimp only
    have hlen : ∀ l : List Nat, (∀ j ∈ l, j < ea.size) → (l.filterMap (vAt ea)).length = l.length := by
      intro l
      induction l with
      | nil => intro _; rfl
      | cons a l ih =>
        intro hb
        have ha := hb a (List.mem_cons_self ..)
        rw [List.filterMap_cons_some (vAt_lt ha), List.length_cons, ih fun j hj => hb j (List.mem_cons_of_mem _ hj), List.length_cons]
    have hp : ((ord.map fun (j : Nat) => rawInt j).toArray)[((i : Int)).toNat]? = Option.none := by
      rw [Int.toNat_natCast, List.getElem?_toArray, List.getElem?_map]
      have h1 := List.getElem?_eq_none_iff.mp hx
      rw [hlen ord hord] at h1
      rw [List.getElem?_eq_none_iff.mpr h1]; rfl
    rw [hp]
    refine wpAny_bind (wpAny_setField_rec hI (by simp) fun h1 hI1 hs1 => ?_)
    exact fin _ h1 hI1 fun b o hb e' => hs1.extBut b o hb e'
  | text i hb =>
    show wpAny _ _ (setNext S 0 ((i : Int)).toNat ((ep : Int)).toNat >>= _) _ _ _
    rw [Int.toNat_natCast, Int.toNat_natCast]
    refine wpAny_bind ?_
    unfold setNext
    refine wpAny_bind (hS.state ?_)
    dsimp only
    refine wpAny_bind (byText_ ?_)
    rw [hb]
    simp only [if_true]
    refine wpAny_ite_split (fun hab => absurd hab (by simp)) fun _ => ?_
    refine wpAny_bind ?_
    unfold setWalk
    refine wpAny_bind (hS.state ?_)
    dsimp only
    refine wpAny_bind (byText_ ?_)
    rw [hb]
    simp only [if_true]
    refine wpAny_bind (wpAny_askSetting (wpAny_pure ?_))
    have he0 : (pickOrder (w.params.setOrder S ep) ea)[i]? = Option.none := by
      rw [List.getElem?_map, Array.getElem?_toList] at hx
      exact Option.map_eq_none_iff.mp hx
    refine wpAny_pure ?_
    show wpAny _ _ (match ((pickOrder (w.params.setOrder S ep) ea)[i]?).map (fun e => (e.2, 0)) with | some (x, next) => _ | Option.none => _) _ _ _
    rw [he0]
    exact fin _ s.heap hI fun b o hb e' => e'
  | none hb h0 =>
    show wpAny _ _ (setNext S 0 0 ((ep : Int)).toNat >>= _) _ _ _
    have e0 : ea = #[] := Array.eq_empty_of_size_eq_zero h0
    subst e0
    refine wpAny_bind ?_
    unfold setNext
    refine wpAny_bind (hS.state ?_)
    dsimp only
    refine wpAny_bind (byText_ ?_)
    rw [hb]
    simp only [Bool.false_eq_true, if_false]
    refine wpAny_ite_split (fun hab => absurd (show (!t.plain && decide (0 > 1)) = true from hab) (by simp)) fun _ => ?_
    refine wpAny_bind (show wpAny _ _ (if (!t.led && !(#[] : Array (Int × Value)).isEmpty) = true then unsupported "set:maker-not-led" else pure PUnit.unit) _ _ _ from ?_)
    refine wpAny_ite_split (fun hab => absurd hab (by simp)) fun _ => wpAny_pure ?_
    refine wpAny_pure ?_
    have hp : t.place = #[] := by
      have := hS.ft
      simp only [SetTable.fits, Bool.and_eq_true, beq_iff_eq] at this
      exact Array.eq_empty_of_size_eq_zero this.1
    rw [hp]
    exact fin _ s.heap hI fun b o hb e' => e'
  | one0 x0 hb h0 hl => simp at hx
  | one1 x0 j hb h0 hl hp =>
    subst h0
    show wpAny _ _ (setNext S (((j : Int) + 1)).toNat 1 ((ep : Int)).toNat >>= _) _ _ _
    have ej : ((j : Int) + 1).toNat = j + 1 := by omega
    rw [ej]
    refine wpAny_bind ?_
    unfold setNext
    refine wpAny_bind (hS.state ?_)
    dsimp only
    refine wpAny_bind (byText_ ?_)
    rw [hb]
    simp only [Bool.false_eq_true, if_false]
    refine wpAny_ite_split (fun hab => absurd (show (!t.plain && decide (1 > 1)) = true from hab) (by simp)) fun _ => ?_
    refine wpAny_bind (show wpAny _ _ (if (!t.led && !(#[x0] : Array (Int × Value)).isEmpty) = true then unsupported "set:maker-not-led" else pure PUnit.unit) _ _ _ from ?_)
    refine wpAny_ite_split (fun hab => absurd hab (by rw [hl]; simp)) fun _ => wpAny_pure ?_
    refine wpAny_pure ?_
    rw [hp, below_one, if_pos (by omega)]
    exact fin _ s.heap hI fun b o hb e' => e'
end
end L2
set_option Elab.async false
set_option linter.all false
set_option maxRecDepth 100000
set_option maxHeartbeats 3200000
namespace L2
open PySem PySem.Spec PyProof.Rows
section
variable {prog : Program} {w : World} {A : Around} {E : Value → Shared → Prop} {s : Shared}
/-- the iterator I walks the set at S and tells ws -/
def SSt (w : World) (I S : Addr) (fp : List Addr) (ea : Array (Int × Value)) (ep : Nat) (t : SetTable) (ws : List Value) (i : Nat) (h : Heap) : Prop :=
  ∃ first, SI h I S first i ea.size ep ∧ SO h S ea ep t ∧ How w h S ea ep t first i ws ∧ ∀ T, first = .ref T → T ≠ I ∧ T ∈ fp
theorem How.keep {h h' : Heap} {S : Addr} {ea : Array (Int × Value)} {ep : Nat} {t : SetTable} {first : Value} {i : Nat} {ws : List Value} (x : How w h S ea ep t first i ws) (k : ∀ T o, first = .ref T → h.get? T = some o → h'.get? T = some o) : How w h' S ea ep t first i ws := by
  cases x with
  | drawn T ord i a b => exact .drawn T ord i (k T _ rfl a) b
  | text i a => exact .text i a
  | none a b => exact .none a b
  | one0 x a b c => exact .one0 x a b c
  | one1 x j a b c d => exact .one1 x j a b c d
theorem si_walks (hh : A.handled = none) {I S : Addr} {fp : List Addr} {ea : Array (Int × Value)} {ep : Nat} {t : SetTable} {ws : List Value} (hne : S ≠ I) (hIf : I ∈ fp) (hSf : S ∈ fp) :
    Walks prog w A I fp [I] ws.length (fun i v => ws[i]? = some v) (SSt w I S fp ea ep t ws) where
  sub := fun b hb => by
    have : b = I := by simpa using hb
    rw [this]; exact hIf
  frame := fun i h h' x hk => by
    obtain ⟨first, a, b, c, d⟩ := x
    exact ⟨first, hk I hIf _ a, b.at fun o q => hk S hSf o q, c.keep fun T o e q => hk T (d T e).2 o q, d⟩
  item := fun i s Q E hi x hQ => by
    obtain ⟨first, a, b, c, d⟩ := x
    have hx : ws[i]? = some ws[i] := List.getElem?_eq_getElem hi
    refine si_next a b rfl c hne (fun T e => (d T e).1) hx fun h' first' a' sb c' d' => ?_
    refine hQ _ h' s.toks hx ⟨first', a', b.at fun o q => (sb.2 S hne).trans q, c', fun T e => ?_⟩ fun b' o hb' q => (sb.2 b' (by simpa using hb')).trans q
    exact d T (d' T e)
  done := fun s Q E x hQ => by
    obtain ⟨first, a, b, c, d⟩ := x
    exact si_end hh a b rfl c (List.getElem?_eq_none (Nat.le_refl _)) fun h' hk => hQ h' s.toks fun b o hb q => hk b o (by simpa using hb) q
  self := fun i s Q E x h => by
    obtain ⟨first, a, b, c, d⟩ := x
    have hT : s.TypeIs (.ref I) "set_iterator" := ⟨_, a, rfl⟩
    refine wpAny_pyIter_slot hT slot_si_iter (wpAny_call_entry slot_si_iter hT entry_si_iter ?_ (args_si_iter _))
    show wpAny _ _ (ret (.ref I)) _ _ s
    exact wpAny_pure ⟨_, rfl, _, _, hT, slot_si_next.lookup, h⟩
theorem set_iter {S : Addr} {es : List (Int × Value)} {Q : Value → Shared → Prop} (hS : SR prog w s.heap S es (!w.params.followText "set-order"))
    (h : ∀ (I : Addr) (fp : List Addr) (h' : Heap) (d : Drawn) (ea : Array (Int × Value)) (ep : Nat) (t : SetTable) (ws : List Value), s.heap.objs.size ≤ I → (∀ b o, s.heap.get? b = some o → h'.get? b = some o) → ws.Perm (es.map (·.2)) → SSt w I S fp ea ep t ws 0 h' →
      I ∈ fp → S ∈ fp → (∀ b ∈ fp, b = S ∨ s.heap.objs.size ≤ b) → I < h'.objs.size → Q (.ref I) { s with heap := h', drawn := d }) :
    wpAny (model prog w) A (pyIter (.ref S)) Q E s := by
  obtain ⟨⟨o, ea, ep, t, ho, hex, hd, he, hf, hl, hpl⟩, hel, hb⟩ := hS
  subst he
  have hT : s.TypeIs (.ref S) "set" := ⟨o, ho, hex.1⟩
  have hSO : SO s.heap S ea ep t := ⟨⟨o, ho, hd⟩, hf⟩
  have hSlt : S < s.heap.objs.size := Heap.lt_size ho
  refine wpAny_pyIter_slot hT PySem.F.slot_set_iter (wpAny_call_entry PySem.F.slot_set_iter hT entry_set_it ?_ (PySem.F.args_set_iter_1 _))
  unfold Builtin.«frozenset.__iter__»
  refine wpAny_bind (wpAny_of_eq (a := S) rfl ?_)
  unfold Builtin.Frozenset.sizeOf setEntries
  refine wpAny_bind (wpAny_bind (wpAny_bind (hSO.state (wpAny_pure (wpAny_pure ?_)))))
  unfold setDrawn
  refine wpAny_bind (wpAny_bind (hSO.state ?_))
  dsimp only
  refine wpAny_bind (byText_ (wpAny_pure ?_))
  -- behind the first field
  have fin : ∀ (first : Value) (h0 : Heap) (d : Drawn) (ws : List Value) (fp : List Addr), (∀ b o, s.heap.get? b = some o → h0.get? b = some o) → s.heap.objs.size ≤ h0.objs.size → How w h0 S ea ep t first 0 ws → ws.Perm (ea.toList.map (·.2)) →
      (∀ T, first = .ref T → T < h0.objs.size ∧ T ∈ fp) → (∀ b ∈ fp, s.heap.objs.size ≤ b) →
      wpAny (model prog w) A.in1 (setEpoch S >>= fun e => newFields "set_iterator" [first, rawInt 0, .ref S, rawInt ea.size, rawInt e] >>= fun v => ret v)
        (fun fin s' => ∃ v, fin = Fin.done (.ret v) ∧ ∃ T' r, s'.TypeIs v T' ∧ typeLookup (Value.type T') (Str.ofString "__next__") = pure (some r) ∧ Q v s') E { s with heap := h0, drawn := d } := by
    intro first h0 d ws fp hk hz hw hp hTt hfp
    unfold setEpoch
    refine wpAny_bind (wpAny_bind (SO.state (s := { s with heap := h0, drawn := d }) (hSO.at fun o q => hk S o q) (wpAny_pure ?_)))
    dsimp only
    refine wpAny_bind (wpAny_newObj_type (wpAny_pure ⟨_, rfl, "set_iterator", _, ⟨_, Heap.get?_push_size _ rfl, rfl⟩, slot_si_next.lookup, ?_⟩))
    refine h h0.objs.size (h0.objs.size :: S :: fp) _ d ea ep t ws hz (fun b o q => Heap.get?_push_of_some _ (hk b o q)) hp
      ⟨first, Heap.get?_push_size _ rfl, (hSO.at fun o q => hk S o q).at fun o q => Heap.get?_push_of_some _ q, hw.keep fun T o e q => Heap.get?_push_of_some _ q, fun T e => ⟨Nat.ne_of_lt (hTt T e).1, by simp [(hTt T e).2]⟩⟩ (by simp) (by simp) (fun b hb => ?_) (by rw [Heap.size_push]; exact Nat.lt_succ_self _)
    rcases List.mem_cons.mp hb with e | hb
    · exact .inr (by rw [e]; exact hz)
    · rcases List.mem_cons.mp hb with e | hb
      · exact .inl e
      · exact .inr (hfp b hb)
  cases hbt : w.params.followText "set-order" with
  | true =>
    simp only [Bool.not_true, Bool.false_and, Bool.false_eq_true, if_false]
    refine wpAny_bind (wpAny_pure ?_)
    have hp := (pick_perm (w.params.setOrder S ep) ea).map (·.2)
    exact fin (rawInt 0) s.heap s.drawn _ [] (fun b o q => q) (Nat.le_refl _) (.text 0 hbt) hp (fun T e => by cases e) (fun b hb => by simp at hb)
  | false =>
    by_cases h2 : ea.size > 1
    · have hpf : t.plain = false := by
        rcases hpl with q | q
        · omega
        · exact q
      refine wpAny_ite_split (fun _ => ?_) fun hab => absurd (show (!false && (!t.plain && decide (ea.size > 1))) = true by rw [hpf, decide_eq_true h2]; rfl) hab
      refine wpAny_bind (draw_perm ea.size (List.range ea.size) _ _ List.length_range.symm fun ord d hp => ?_)
      refine wpAny_bind (wpAny_newTuple ?_ (hsz := by rw [List.length_map, hp.length_eq, List.length_range, ← Array.length_toList]; exact small80 (by omega)))
      have hsz : (s.heap.push { cls := .type "tuple", data := .seq (ord.map fun (j : Nat) => rawInt j).toArray }).objs.size = s.heap.objs.size + 1 := Heap.size_push ..
      have hmem : ∀ j ∈ ord, j < ea.size := fun j hj => List.mem_range.mp (hp.mem_iff.mp hj)
      refine fin (.ref s.heap.objs.size) (s.heap.push { cls := .type "tuple", data := .seq (ord.map fun (j : Nat) => rawInt j).toArray }) d (ord.filterMap (vAt ea)) [s.heap.objs.size] (fun b o q => Heap.get?_push_of_some _ q) (by rw [hsz]; exact Nat.le_succ _)
        (.drawn _ ord 0 (Heap.get?_push_size _ rfl) hmem) ?_ (fun T e => ?_) (fun b hb => ?_)
      · refine (hp.filterMap _).trans ?_
        have key : ∀ l : List (Int × Value), (List.range l.length).filterMap (fun j => (l[j]?).map Prod.snd) = l.map (·.2) := by
          intro l
          refine List.ext_getElem? fun i => ?_
          have e1 : ∀ j ∈ List.range l.length, (fun j => (l[j]?).map Prod.snd) j = some ((l.map (·.2)).getD j .none) := by
            intro j hj
            have := List.mem_range.mp hj
            show (l[j]?).map Prod.snd = _
            rw [List.getD_eq_getElem?_getD, List.getElem?_map, List.getElem?_eq_getElem this]; rfl
          rw [fm_congr e1, List.filterMap_eq_map']
          rw [List.getElem?_map, List.getElem?_map]
          by_cases hi : i < l.length
          · rw [List.getElem?_range hi]
            simp [List.getElem?_eq_getElem hi]
          · rw [List.getElem?_eq_none (by simpa using hi), List.getElem?_eq_none (by omega)]; rfl
        have k2 := key ea.toList
        rw [Array.length_toList] at k2
        rw [← k2]
        refine List.Perm.of_eq (fm_congr fun j _ => ?_)
        show (ea[j]?).map Prod.snd = (ea.toList[j]?).map Prod.snd
        rw [Array.getElem?_toList]
      · cases e
        exact ⟨by rw [hsz]; exact Nat.lt_succ_self _, by simp⟩
      · rw [List.mem_singleton.mp hb]; exact Nat.le_refl _
    · refine wpAny_ite_split (fun hab => absurd (show (!false && (!t.plain && decide (ea.size > 1))) = true from hab) (by rw [decide_eq_false h2]; simp)) fun _ => ?_
      refine wpAny_bind (wpAny_pure ?_)
      have hlt : t.led = true := by rw [hl, hbt]; rfl
      obtain ⟨l, hl2⟩ : ∃ l, l = ea.toList := ⟨_, rfl⟩
      match l, hl2 with
      | [], hl2 =>
        have e0 : ea.size = 0 := by rw [← Array.length_toList, ← hl2]; rfl
        refine fin (rawInt 0) s.heap s.drawn [] [] (fun b o q => q) (Nat.le_refl _) (.none hbt e0) (by rw [← hl2]; exact .rfl) (fun T e => by cases e) (fun b hb => by simp at hb)
      | [x], hl2 =>
        have e0 : ea = #[x] := Array.toList_inj.mp hl2.symm
        refine fin (rawInt 0) s.heap s.drawn [x.2] [] (fun b o q => q) (Nat.le_refl _) (.one0 x hbt e0 hlt) (by rw [← hl2]; exact .rfl) (fun T e => by cases e) (fun b hb => by simp at hb)
      | x :: y :: r, hl2 =>
        have : ea.size > 1 := by rw [← Array.length_toList, ← hl2]; simp
        exact absurd this h2
theorem set_hint {S : Addr} (hT : s.TypeIs (.ref S) "set") {Q : Bool → Shared → Prop} (h : Q false s) : wpAny (model prog w) A (Builtin.List.listLengthHint (.ref S)) Q E s := by
  unfold Builtin.List.listLengthHint
  refine wpAny_bind (wpAny_specialOf hT set_len ?_)
  generalize hid : ("set.__len__" : String) = id0
  wp_delta
  rw [show splitId id0 = some ("set", "__len__") from by subst hid; decide +kernel]
  subst hid
  refine wpAny_bind (wpAny_isInstance (T := "set") (b := true) hT (by rw [isSubtype_type]; kernel_rfl) ?_)
  refine wpAny_ite_split (fun hab => absurd hab (by decide)) (fun _ => ?_)
  refine wpAny_ite_split (fun _ => ?_) (fun hab => absurd (by decide +kernel) hab)
  refine wpAny_bind (wpAny_typeOf hT ?_)
  exact wpAny_pure h
theorem set_extend {S D : Addr} {es : List (Int × Value)} {R : Result → Shared → Prop} (hh : A.handled = none) (hS : SR prog w s.heap S es (!w.params.followText "set-order")) (hSD : D ≠ S) (res : Value) (c₀ : Nat)
    (hD : s.heap.get? D = some { cls := .type "list", data := .seq #[] c₀ })
    (hR : ∀ h' d tk acc c, (∀ b o, b ≠ D → s.heap.get? b = some o → h'.get? b = some o) → h'.get? D = some { cls := .type "list", dict := none, data := .seq acc c, slots := #[] } → acc.toList.Perm (es.map (·.2)) → R (.ok (.ret res)) { s with heap := h', drawn := d, toks := tk }) :
    wpAny (model prog w) A.in1 (Builtin.List.listExtendWith (.ref D) (.ref S) res)
      (fun fin s' => match fin with | .done f => R (.ok f) s' | .again c' => c'.quiet = true ∧ codeAny (model prog w) A c' R s') (fun e s' => R (.error e) s') s := by
  have hDlt : D < s.heap.objs.size := Heap.lt_size hD
  have hT : s.TypeIs (.ref S) "set" := by
    obtain ⟨o, ea, ep, t, ho, hex, _⟩ := hS.ex
    exact ⟨o, ho, hex.1⟩
  unfold Builtin.List.listExtendWith
  refine wpAny_bind (wpAny_typeOf (T := "set") hT ?_)
  have h1 : Builtin.List.listSameRef (.ref D) (.ref S) = false := by simp [Builtin.List.listSameRef, hSD]
  have h2 : (Value.type "set" == Value.type "list") = false := by decide
  have h3 : (Value.type "set" == Value.type "tuple") = false := by decide
  simp only [h1, h2, h3, Bool.or_false, Bool.false_eq_true, if_false]
  refine wpAny_bind (set_iter hS fun I fp h' d ea ep t ws hI hk hp hst hIf hSf hfp hIlt => ?_)
  have hTI : Shared.TypeIs { s with heap := h', drawn := d } (.ref S) "set" := by
    obtain ⟨o, ho, hc⟩ := hT
    exact ⟨o, hk S o ho, hc⟩
  have hn : ws.length ≤ sizeLine := by
    rw [hp.length_eq, List.length_map]
    exact small80 (Nat.le_of_lt (Nat.lt_trans hS.bd (by decide)))
  have hDf : D ∉ fp := fun hm => by
    rcases hfp D hm with e | e
    · exact hSD e
    · exact absurd hDlt (Nat.not_lt_of_le e)
  have hSI : S ≠ I := by
    obtain ⟨o, ea, ep, t, ho, _⟩ := hS.ex
    exact Nat.ne_of_lt (Nat.lt_of_lt_of_le (Heap.lt_size ho) hI)
  have key : ∀ (h1 : Heap) (c₁ tk : Nat), (∀ b o, b ≠ D → h'.get? b = some o → h1.get? b = some o) → h1.get? D = some { cls := .type "list", data := .seq #[] c₁ } →
      codeAny (model prog w) A (.builtin "list.extend.loop" ⟨[.ref D, .ref I, res], []⟩) R { s with heap := h1, drawn := d, toks := tk } := by
    intro h1 c₁ tk hk1 hD1
    have W := si_walks (prog := prog) (w := w) (A := A.in1) (ea := ea) (ep := ep) (t := t) (ws := ws) hh hSI hIf hSf
    refine codeAny_extend_loopS W.toS hn D hDf res ws.length 0 _ #[] c₁ rfl (Nat.zero_le _) (W.frame 0 h' h1 hst fun b hb o q => hk1 b o (fun e => hDf (e ▸ hb)) q) hD1 (ItemsOf.nil _) fun s' acc' c' hm hS' hacc => ?_
    rw [Moved.eq_with hm]
    refine hR s'.heap d s'.toks acc' c' (fun b o hb e => hm.heap b o (fun hmem => ?_) (hk1 b o hb (hk b o e))) hS' ?_
    · rcases List.mem_cons.mp hmem with e' | hmem
      · exact hb e'
      · rw [List.mem_singleton.mp hmem] at e
        exact absurd (Heap.lt_size e) (Nat.not_lt_of_le hI)
    · refine List.Perm.trans (List.Perm.of_eq ?_) hp
      refine List.ext_getElem? fun i => ?_
      rw [Array.getElem?_toList]
      by_cases hi : i < ws.length
      · have hia : i < acc'.size := by rw [hacc.1]; exact hi
        rw [Array.getElem?_eq_getElem hia]
        exact (hacc.2 i _ (Array.getElem?_eq_getElem hia)).symm
      · rw [List.getElem?_eq_none (by omega), Array.getElem?_eq_none (by rw [hacc.1]; omega)]
  have hD₁ := hk D _ hD
  refine wpAny_bind (wpAny_holding (set_hint hTI ?_))
  refine wpAny_ite_split (fun _ => ?_) (fun _ => wpAny_pure ⟨plainId_quiet PySem.F.plain_extend_loop _, key _ c₀ _ (fun b o _ e => e) hD₁⟩)
  refine wpAny_bind (wpAny_rule ?_)
  refine wpAny_bind ?_
  show wpAny _ _ (updateSeq D (·.push .none) >>= fun _ => updateSeq D (·.pop)) _ _ _
  refine wpAny_bind (wpAny_updateSeq hD₁ rfl ?_)
  have hD₂ := Heap.get?_update_self (Obj.mapSeq (·.push Value.none)) hD₁ rfl
  refine wpAny_updateSeq (hz := by seq_fits) hD₂ rfl ?_
  have hD₃ := Heap.get?_update_self (Obj.mapSeq (·.pop)) hD₂ rfl
  refine wpAny_pure ⟨plainId_quiet PySem.F.plain_extend_loop _, key _ _ _ (fun b o hb e => ?_) hD₃⟩
  exact (Heap.get?_update_other _ _ (Ne.symm hb)).trans ((Heap.get?_update_other _ _ (Ne.symm hb)).trans e)
end
end L2
set_option Elab.async false
set_option linter.all false
set_option maxRecDepth 100000
set_option maxHeartbeats 3200000
namespace L2
open PySem PySem.Spec PyProof.Rows
section
variable {prog : Program} {w : World} {A : Around} {E : Value → Shared → Prop} {s : Shared}
theorem set_collect {S : Addr} {es : List (Int × Value)} {R : List Value → Shared → Prop} (hh : A.handled = none) (hS : SR prog w s.heap S es (!w.params.followText "set-order"))
    (h : ∀ (h' : Heap) (d : Drawn) (tk : Nat) (acc : Array Value), s.heap.objs.size < h'.objs.size → (∀ b o, s.heap.get? b = some o → h'.get? b = some o) → acc.toList.Perm (es.map (·.2)) → R acc.toList { s with heap := h', drawn := d, toks := tk }) :
    wpAny (model prog w) A (collect (.ref S)) R E s := by
  have hlt : S < s.heap.objs.size := by
    obtain ⟨o, ea, ep, t, ho, _⟩ := hS.ex
    exact Heap.lt_size ho
  unfold collect
  refine wpAny_bind (wpAny_runValue (codeAny_builtin PyProof.Rows.entry_proto_collect' ?_))
  rw [Around.under_plainId PySem.F.plain_proto_collect _]
  show wpAny _ A.in1 (newList [] >>= fun l => again (.builtin "list.__iadd__" ⟨[l, .ref S], []⟩)) _ _ s
  refine wpAny_bind (wpAny_newObj_type ?_)
  refine wpAny_pure ⟨plainId_quiet PySem.F.plain_list_iadd _, codeAny_builtin PyProof.Rows.entry_list_iadd' ?_⟩
  rw [Around.under_plainId PySem.F.plain_list_iadd _]
  have hS₁ : (s.heap.push { cls := .type "list", data := .seq ([] : List Value).toArray }).get? s.heap.objs.size = some { cls := .type "list", data := .seq #[] } := Heap.get?_push_size _ rfl
  show wpAny _ A.in1 (Builtin.List.listExtendWith (.ref s.heap.objs.size) (.ref S) (.ref s.heap.objs.size)) _ _ _
  have key := set_extend (A := A) (s := { s with heap := s.heap.push { cls := .type "list", data := .seq ([] : List Value).toArray } }) (D := s.heap.objs.size)
    (R := fun (q : Result) (s' : Shared) => ∃ (h' : Heap) (d : Drawn) (tk : Nat) (acc' : Array Value) (c' : Nat), q = .ok (.ret (.ref s.heap.objs.size)) ∧ s' = { s with heap := h', drawn := d, toks := tk } ∧
      (∀ b o, s.heap.get? b = some o → h'.get? b = some o) ∧ h'.get? s.heap.objs.size = some { cls := .type "list", dict := none, data := .seq acc' c', slots := #[] } ∧ acc'.toList.Perm (es.map (·.2)))
    hh (hS.at fun o q => Heap.get?_push_of_some _ q) (Nat.ne_of_gt hlt) (.ref s.heap.objs.size) 0 hS₁
    (fun h' d tk acc' c' hk hS' hacc => ⟨h', d, tk, acc', c', rfl, rfl, fun b o e => hk b o (Nat.ne_of_lt (Heap.lt_size e)) (Heap.get?_push_of_some _ e), hS', hacc⟩)
  refine wpAny_mono key (fun fin s' x => ?_) fun e s' x => ?_
  · cases fin with
    | done f =>
      obtain ⟨h', d, tk, acc', c', e, rfl, hk, hS', hacc⟩ := x
      cases e
      show wpAny _ A (load s.heap.objs.size >>= _) _ _ _
      refine wpAny_bind (wpAny_load hS' ?_)
      exact wpAny_pure (h h' d tk acc' (Heap.lt_size hS') hk hacc)
    | again c₁ =>
      refine ⟨x.1, codeAny_mono x.2 fun q s₂ y => ?_⟩
      obtain ⟨h', d, tk, acc', c', rfl, rfl, hk, hS', hacc⟩ := y
      show wpAny _ A (load s.heap.objs.size >>= _) _ _ _
      refine wpAny_bind (wpAny_load hS' ?_)
      exact wpAny_pure (h h' d tk acc' (Heap.lt_size hS') hk hacc)
  · obtain ⟨_, _, _, _, _, e', _⟩ := x
    cases e'
theorem strs_of_codes : ∀ {vs : List Value}, (∀ v ∈ vs, ∃ c t, v = .str (sg c) t) → StrsAre vs ((vs.map codeV).map sg)
  | [], _ => .nil
  | v :: vs, h => by
    obtain ⟨c, t, e⟩ := h v (List.mem_cons_self ..)
    subst e
    exact .cons _ t (strs_of_codes fun u hu => h u (List.mem_cons_of_mem _ hu))
theorem lt_sg (c d : Nat) : ltCps (sg d).cps.toList (sg c).cps.toList = decide (d < c) := by
  rw [ltCps_eq]
  show decide ([d] < [c]) = _
  rw [Bool.eq_iff_iff]
  simp only [decide_eq_true_eq]
  constructor
  · intro h
    rcases List.lt_iff_exists.mp h with h | h
    · have := h.2
      simp at this
    · obtain ⟨i, h1, h2, h3, h4⟩ := h
      have hi : i = 0 := by simpa using h1
      subst hi
      simpa using h4
  · intro h
    exact List.Lex.rel h
theorem rising_codes : ∀ (c : Nat) (l : List Nat), risingS (sg c) (l.map sg) = true → (c :: l).Pairwise (· ≤ ·)
  | c, [], _ => List.pairwise_singleton ..
  | c, d :: l, h => by
    have h' : (!ltCps (sg d).cps.toList (sg c).cps.toList && risingS (sg d) (l.map sg)) = true := h
    rw [lt_sg, Bool.and_eq_true] at h'
    have hcd : c ≤ d := by
      have := h'.1
      simp at this
      exact this
    have ih := rising_codes d l h'.2
    refine List.pairwise_cons.mpr ⟨fun e he => ?_, ih⟩
    rcases List.mem_cons.mp he with e1 | he
    · rw [e1]; exact hcd
    · exact Nat.le_trans hcd ((List.pairwise_cons.mp ih).1 e he)
theorem sorted_codes (l : List Nat) (h : sortedS (l.map sg) = true) : l.Pairwise (· ≤ ·) := by
  cases l with
  | nil => exact .nil
  | cons c l => exact rising_codes c l h
theorem perm_sg {ss : List Str} {ds : List Nat} (h : ss.Perm (ds.map sg)) : ∃ ds' : List Nat, ss = ds'.map sg ∧ ds'.Perm ds := by
  refine ⟨ss.map (fun x => x.cps.getD 0 0), ?_, ?_⟩
  · rw [List.map_map]
    have : ∀ x ∈ ss, (sg ∘ fun x : Str => x.cps.getD 0 0) x = x := by
      intro x hx
      obtain ⟨c, _, e⟩ := List.mem_map.mp (h.mem_iff.mp hx)
      subst e; rfl
    rw [List.map_congr_left this]; simp
  · have := h.map (fun x : Str => x.cps.getD 0 0)
    rw [List.map_map] at this
    have e : (ds.map ((fun x : Str => x.cps.getD 0 0) ∘ sg)) = ds := by
      have : ∀ d ∈ ds, ((fun x : Str => x.cps.getD 0 0) ∘ sg) d = d := fun d _ => rfl
      rw [List.map_congr_left this]; simp
    rw [e] at this
    exact this
theorem sorted_set {S : Addr} {cs : List Nat} {Q : Value → Shared → Prop} (hh : A.handled = none) (hS : SC prog w s.heap S (!w.params.followText "set-order") cs) (h64 : ∀ ds : List Nat, ds.Nodup → (∀ d ∈ ds, d ∈ cs) → ds.length < 64)
    (h : ∀ (D : Addr) (h' : Heap) (d : Drawn) (tk n : Nat) (vs : List Value) (ds : List Nat), s.heap.objs.size ≤ D → (∀ b o, s.heap.get? b = some o → h'.get? b = some o) → h'.get? D = some (seqObj "list" vs.toArray n) → StrsAre vs (ds.map sg) → ds.Pairwise (· < ·) → (∀ c, c ∈ ds ↔ c ∈ cs) →
      Q (.ref D) { s with heap := h', drawn := d, toks := tk }) :
    wpAny (model prog w) A (call (.builtin "sorted") [.ref S]) Q E s := by
  obtain ⟨es, hR, hsh, hnd, hin⟩ := hS.ex
  refine Calls.call_function_entry kind_sorted plain_sorted entry_sorted (args_sorted1 _) ?_
  unfold Builtin.«sorted»
  refine wpAny_bind (m := checkCount "sorted" 1 1 _) (wpAny_pure ?_)
  refine wpAny_bind (set_collect (A := A.in1) hh hR fun h1 d tk acc hbig hk hp => ?_)
  have hcode : (acc.toList.map codeV).Perm (es.map (fun e => codeV e.2)) := by
    have := hp.map codeV
    rw [List.map_map] at this
    exact this
  have hall : ∀ v ∈ acc.toList, ∃ c t, v = .str (sg c) t := fun v hv => by
    obtain ⟨e, he, e1⟩ := List.mem_map.mp (hp.mem_iff.mp hv)
    obtain ⟨c, t, e2⟩ := hsh e he
    exact ⟨c, t, by rw [← e1]; exact e2⟩
  have hst := strs_of_codes hall
  have hl64 : acc.toList.length < 64 := by
    have := h64 (acc.toList.map codeV) (hcode.nodup_iff.mpr hnd) fun c hc => (hin c).mp (hcode.mem_iff.mp hc)
    rwa [List.length_map] at this
  refine wpAny_bind (wpAny_newList ?_ (by exact small80 (by omega)))
  have hoL : (h1.push (seqObj "list" acc.toList.toArray 0)).get? h1.objs.size = some (seqObj "list" acc.toList.toArray 0) := Heap.get?_push_size _ rfl
  refine wpAny_bind (wpAny_holding (wpAny_call_entry slot_list_sort (s := { s with heap := h1.push (seqObj "list" acc.toList.toArray 0), drawn := d, toks := tk }) ⟨_, hoL, rfl⟩ entry_list_sort (list_sort_treeK strKind_oneLt hoL hst.keysOf (fun v₁ v₂ rest e => keyKind_strs (by rw [← e]; exact hst)) hl64 fun st' a1 a2 => ⟨_, rfl, ?_⟩) (args_list_sort _)))
  obtain ⟨ss', b1, b2, b3⟩ := sorted_out_str hst a1 a2
  obtain ⟨ds, rfl, hds⟩ := perm_sg b2
  obtain ⟨e, he⟩ := sortedHeap_at (vs := acc.toList) (out := (arrOf st').map (·.2)) hoL
  refine wpAny_pure ⟨_, rfl, h h1.objs.size _ d tk e _ ds (Nat.le_of_lt hbig) (fun b o q => ?_) he b1 ?_ fun c => ?_⟩
  · have hb := Heap.lt_size (hk b o q)
    rw [sortedHeap_old (Nat.ne_of_lt hb) (by rw [size_push']; exact Nat.lt_succ_of_lt hb)]
    exact Heap.get?_push_of_some _ (hk b o q)
  · have h1 := sorted_codes ds b3
    have h2 : ds.Nodup := (hds.trans hcode).nodup_iff.mpr hnd
    exact (h1.and h2).imp fun ⟨a, b⟩ => Nat.lt_of_le_of_ne a b
  · rw [(hds.trans hcode).mem_iff]
    exact hin c
end
theorem Inv.drawn {X : Cx} {pins : List (Addr × Obj)} {σ : St} {H : Hp} {s : Shared} (I : Inv X pins σ H s) (d : Drawn) : Inv X pins σ H { s with drawn := d } :=
  ⟨I.ok, I.os, I.bare, I.base, I.loc, I.cell, I.free, I.freeC, I.pin, I.hok, I.len⟩
def tSortedSet (ta : TA) : TE := fun σ H Q => ta σ H fun vs H1 => ∃ z : Str, vs = [.str z] ∧ z.length < 3900 ∧ (∀ ds : List Nat, ds.Nodup → (∀ d ∈ ds, d ∈ z.cps.toList) → ds.length < 64) ∧
  ∀ (l : Addr) (ds : List Nat), H1 l = none → ds.Pairwise (· < ·) → (∀ c, c ∈ ds ↔ c ∈ z.cps.toList) → Q (.ref l) (upd H1 l (.lst ((ds.map sg).map V.str)))
end L2
set_option Elab.async false
set_option linter.all false
set_option maxRecDepth 100000
set_option maxHeartbeats 3200000
namespace L2
open PySem PySem.Spec PyProof.Rows
section
variable {prog : Program} {w : World} {A : Around} {E : Value → Shared → Prop} {s : Shared}
theorem set_loopG {cs : List Nat} {I S : Addr} {fp : List Addr} {Pv : Nat → Value → Prop} {St : Nat → Heap → Prop} {R : Result → Shared → Prop} {led : Bool} (W : Walks prog w A.in1 I fp [I] cs.length Pv St) (hPv : ∀ i v, Pv i v → ∃ c u, cs[i]? = some c ∧ v = .str (sg c) u) (hSf : S ∉ fp) (hz : cs.length < 3900) :
    ∀ (k i : Nat) (h : Heap) (tk : Nat), cs.length - i = k → i ≤ cs.length → St i h → SC prog w h S led (cs.take i) →
      (∀ h' tk', (∀ b o, b ≠ S → b ≠ I → h.get? b = some o → h'.get? b = some o) → SC prog w h' S led cs → R (.ok (.ret .none)) { s with heap := h', toks := tk' }) →
      codeAny (model prog w) A (.builtin "set.update.loop" ⟨[.ref S, .ref I], []⟩) R { s with heap := h, toks := tk } := by
  have hSI : S ≠ I := fun z => hSf (z ▸ W.sub I (by simp))
  intro k
  induction k with
  | zero =>
    intro i h tk hk hi hst hS hR
    have hin : i = cs.length := by omega
    subst hin
    refine codeAny_builtin PyProof.Rows.F.entry_set_update_loop ?_
    rw [Around.under_plainId PyProof.Rows.F.plain_set_update_loop _]
    show wpAny _ A.in1 (pyNext (.ref I) >>= _) _ _ _
    refine wpAny_bind (W.done _ _ _ hst fun h' tk' hm => ?_)
    show wpAny _ A.in1 (ret Value.none) _ _ _
    have hm' : ∀ b o, b ≠ I → h.get? b = some o → h'.get? b = some o := fun b o hb e => hm b o (by simpa using hb) e
    refine wpAny_pure (hR h' tk' (fun b o _ h2 e => hm' b o h2 e) ?_)
    have e : cs.take cs.length = cs := List.take_of_length_le (Nat.le_refl _)
    rw [e] at hS
    exact hS.at fun o q => hm' S o hSI q
  | succ k ih =>
    intro i h tk hk hi hst hS hR
    have hlt : i < cs.length := by omega
    refine codeAny_builtin PyProof.Rows.F.entry_set_update_loop ?_
    rw [Around.under_plainId PyProof.Rows.F.plain_set_update_loop _]
    show wpAny _ A.in1 (pyNext (.ref I) >>= _) _ _ _
    refine wpAny_bind (W.item i _ _ _ hlt hst fun v h1 tk1 hP hst1 hm => ?_)
    have hm' : ∀ b o, b ≠ I → h.get? b = some o → h1.get? b = some o := fun b o hb e => hm b o (by simpa using hb) e
    obtain ⟨c, u, hc', rfl⟩ := hPv _ _ hP
    obtain ⟨es, hR1, hsh, hnd, hin⟩ := (hS.at (h' := h1) fun o q => hm' S o hSI q).ex
    show wpAny _ A.in1 (holding [Value.str (sg c) u] (setAdd S (.str (sg c) u)) >>= _) _ _ _
    refine wpAny_bind (wpAny_holding ?_)
    unfold setAdd
    refine wpAny_holding ?_
    refine wpAny_bind ((PySem.strKind prog w).pyHash (k := sg c) (strKind_is _ _ _ _) ?_)
    have hlen : es.length ≤ i := by
      have h1 : (es.map (fun e => codeV e.2)).length ≤ (cs.take i).length := nodup_len hnd fun d hd => (hin d).mp hd
      rw [List.length_map, List.length_take] at h1
      omega
    refine add_str (s := { s with heap := h1, toks := tk1 + 1 }) hR1 (by omega) (fun hex => ?_) (fun hno h2 es2 hsb hR2 hp => ?_)
    · refine wpAny_pure ⟨plainId_quiet PyProof.Rows.F.plain_set_update_loop _, ih (i + 1) h1 (tk1 + 1) (by omega) hlt hst1 ⟨es, hR1, hsh, hnd, fun d => ?_⟩ fun h' tk' hk' hS' => hR h' tk' (fun b o a1 a2 e => hk' b o a1 a2 (hm' b o a2 e)) hS'⟩
      rw [take_succ_mem hc' d, hin d]
      refine ⟨.inl, fun q => ?_⟩
      rcases q with q | q
      · exact q
      · subst q
        obtain ⟨e, he, hk'⟩ := hex
        obtain ⟨c', t', e'⟩ := hsh e he
        rw [← hin d]
        refine List.mem_map.mpr ⟨e, he, ?_⟩
        rw [e'] at hk' ⊢
        have : sg d = sg c' := by
          have hk2 : Value.isStrOf (sg d) (.str (sg c') t') = true := hk'
          obtain ⟨_, q⟩ := Value.isStrOf_shape hk2
          injection q with q1
          exact q1.symm
        have : d = c' := by
          have h9 := congrArg (fun x : Str => x.cps.getD 0 0) this
          exact h9
        rw [this]; rfl
    · have hperm : (es2.map (fun e => codeV e.2)).Perm (es.map (fun e => codeV e.2) ++ [c]) := by
        have := hp.map (fun e => codeV e.2)
        rw [List.map_append] at this
        exact this
      have hnc : c ∉ es.map (fun e => codeV e.2) := by
        intro hc1
        obtain ⟨e, he, e1⟩ := List.mem_map.mp hc1
        obtain ⟨c', t', e'⟩ := hsh e he
        have h8 := hno e he
        rw [e'] at h8 e1
        have e2 : c' = c := e1
        subst e2
        rw [strKind_is] at h8
        cases h8
      refine wpAny_pure ⟨plainId_quiet PyProof.Rows.F.plain_set_update_loop _, ih (i + 1) h2 (tk1 + 1) (by omega) hlt (W.frame _ h1 _ hst1 fun b hb o e => ?_) ⟨es2, hR2, fun e he => ?_, ?_, fun d => ?_⟩ fun h' tk' hk' hS' => hR h' tk' (fun b o a1 a2 e => hk' b o a1 a2 ((hsb.2 b a1).trans (hm' b o a2 e))) hS'⟩
      · exact (hsb.2 b (fun z => hSf (z ▸ hb))).trans e
      · rcases List.mem_append.mp (hp.mem_iff.mp he) with q | q
        · exact hsh e q
        · rw [List.mem_singleton.mp q]; exact ⟨c, u, rfl⟩
      · refine hperm.nodup_iff.mpr ?_
        rw [List.nodup_append]
        refine ⟨hnd, by simp, fun a ha b hb e => ?_⟩
        rw [List.mem_singleton.mp hb] at e
        exact hnc (e ▸ ha)
      · rw [hperm.mem_iff, List.mem_append, List.mem_singleton, take_succ_mem hc' d, hin d]
theorem call_set_signs {cs : List Nat} {l : Addr} {its : Array Value} {Q : Value → Shared → Prop} (hl : s.heap.IsList l its) (hv : ∀ (i : Nat) (v : Value), its[i]? = some v → ∃ c u, cs[i]? = some c ∧ v = .str (sg c) u) (hn : its.size = cs.length) (hh : A.handled = none) (hz : cs.length < 3900)
    (h : ∀ (h' : Heap) (tk : Nat), SC prog w h' s.heap.objs.size (!w.params.followText "set-order") cs →
      (∀ b o, s.heap.get? b = some o → h'.get? b = some o) → Q (.ref s.heap.objs.size) { s with heap := h', toks := tk }) :
    wpAny (model prog w) A (call (.type "set") [.ref l]) Q E s := by
  obtain ⟨c, tl, hmro⟩ := PySem.F.called_set.mro
  have hmade := PySem.F.called_set.made
  have hsub := PySem.F.called_set.sub
  refine wpAny_call (codeAny_of_tree ?_)
  show wpAny _ _ (callAny (.type "set") _) _ _ _
  refine wpAny_pure ⟨Code.quiet_builtin _ (by decide +kernel), codeAny_builtin PySem.F.entry_type_call ?_⟩
  rw [Around.under_plain (weight_type_call_type "set" [.ref l] []) rfl]
  have h1 := PySem.F.called_set.notType
  have h2 := PySem.F.called_set.canCreate
  have hct := PySem.F.typeCall_set_1 (.ref l)
  repeat (any_goals (first | assumption | wp_step))
  generalize hled : (!w.params.followText "set-order") = led at h
  refine codeAny_mono (setNew (a := .ref l) (E := E) (Q₁ := fun obj s₁ => obj = .ref s.heap.objs.size ∧ s₁ = { s with heap := s.heap.push { cls := .type "set", dict := none, data := .set #[] 0 (.fresh 0 0 led) } }) (by rw [hled]; exact ⟨rfl, rfl⟩)) fun r s₁ hr => ?_
  cases r with
  | error e => exact hr
  | ok fl =>
    cases fl with
    | ret obj =>
      obtain ⟨rfl, rfl⟩ := hr
      have hS : (s.heap.push { cls := .type "set", dict := none, data := .set #[] 0 (.fresh 0 0 led) }).get? s.heap.objs.size = some { cls := .type "set", dict := none, data := .set #[] 0 (.fresh 0 0 led) } := Heap.get?_push_size _ rfl
      have hT : Shared.TypeIs { s with heap := s.heap.push { cls := .type "set", dict := none, data := .set #[] 0 (.fresh 0 0 led) } } (.ref s.heap.objs.size) "set" := ⟨_, hS, rfl⟩
      have hli := PySem.F.called_set.init.lookup
      have hbi := PySem.F.called_set.init.bind (.ref s.heap.objs.size)
      repeat (any_goals (first | assumption | wp_step))
      refine codeAny_mono (codeAny_call_builtin (R := wants (fun r s₂ => r = .none ∧ ∃ h' tk, s₂ = { s with heap := h', toks := tk } ∧ SC prog w h' s.heap.objs.size led cs ∧
          (∀ b o, s.heap.get? b = some o → h'.get? b = some o)) E) PySem.F.called_set.init.plain PySem.F.entry_set_init (check_set_init_1 hT ?_)) fun r₂ s₂ hr₂ => ?_
      · have hlS : (s.heap.push { cls := .type "set", dict := none, data := .set #[] 0 (.fresh 0 0 led) }).IsList l its := hl.at fun o e => Heap.get?_push_of_some _ e
        have hTl : Shared.TypeIs { s with heap := s.heap.push { cls := .type "set", dict := none, data := .set #[] 0 (.fresh 0 0 led) } } (.ref l) "list" := hlS.typeIs
        have hsls := PySem.F.sub_list_set
        have hslf := PySem.F.sub_list_frozenset
        have hne : (Value.type "list" == Value.type "dict") = false := by decide
        unfold Builtin.«set.__init__» noKeywords Builtin.Frozenset.updateFrom
        generalize hPI : pyIter = PI
        wp_walk
        subst hPI
        refine wpAny_pyIter_list hlS ?_
        refine wpAny_bind (wpAny_runValue ?_)
        have hh3 : A.in1.in1.in1.handled = none := by simp [hh]
        have hz1 : (s.heap.push { cls := .type "set", dict := none, data := .set #[] 0 (.fresh 0 0 led) }).objs.size = s.heap.objs.size + 1 := Heap.size_push ..
        have hSI : s.heap.objs.size ≠ (s.heap.push { cls := .type "set", dict := none, data := .set #[] 0 (.fresh 0 0 led) }).objs.size := by
          rw [hz1]; exact Nat.ne_of_lt (Nat.lt_succ_self _)
        have hlI : l ≠ (s.heap.push { cls := .type "set", dict := none, data := .set #[] 0 (.fresh 0 0 led) }).objs.size := by
          obtain ⟨o, ho, _⟩ := id hlS
          exact Nat.ne_of_lt (Heap.lt_size ho)
        have hlS2 : s.heap.objs.size ≠ l := by
          obtain ⟨o, ho, _⟩ := id hl
          exact Nat.ne_of_gt (Heap.lt_size ho)
        have W := Walks.list (prog := prog) (w := w) (A := A.in1.in1.in1) hh3 (s.heap.push { cls := .type "set", dict := none, data := .set #[] 0 (.fresh 0 0 led) }).objs.size l hlI its
        rw [hn] at W
        refine set_loopG (s := s) (cs := cs) (S := s.heap.objs.size) (led := led) W hv (fun hm => ?_) hz (cs.length - 0) 0 _ _ (by omega) (Nat.zero_le _)
          ⟨⟨_, Heap.get?_push_size _ rfl, rfl, rfl⟩, hlS.at fun o e => Heap.get?_push_of_some _ e⟩ ⟨[], ⟨⟨_, #[], 0, _, Heap.get?_push_of_some _ hS, ⟨rfl, rfl, rfl⟩, rfl, rfl, by rfl, rfl, .inl rfl⟩, fun e he => by simp at he, by decide⟩, fun e he => by simp at he, List.Pairwise.nil, fun c => by simp⟩ ?_
        · rcases List.mem_cons.mp hm with e | e
          · exact hSI e
          · exact hlS2 (List.mem_singleton.mp e)
        intro h' tk' hk hS'
        show wpAny _ _ _ _ _ _
        refine wpAny_pure ?_
        show wpAny _ _ (ret Value.none) _ _ _
        refine wpAny_pure ⟨rfl, h', tk', rfl, hS', fun b o e => ?_⟩
        have hb := Heap.lt_size e
        exact hk b o (Nat.ne_of_lt hb) (by rw [hz1]; exact Nat.ne_of_lt (Nat.lt_succ_of_lt hb)) (Heap.get?_push_of_some _ (Heap.get?_push_of_some _ e))
      · cases r₂ with
        | error e => exact hr₂
        | ok fl₂ =>
          cases fl₂ with
          | ret r =>
            obtain ⟨rfl, h', tk, rfl, hS', hk'⟩ := hr₂
            repeat (any_goals (first | assumption | wp_step))
            exact h _ _ hS' hk'
          | _ => exact hr₂.elim
    | _ => exact hr.elim
end
def tSortedSetL (K : PySem.W.Frag) (ta : TA) : TE := fun σ H Q => ta σ H fun vs H1 => ∃ (l0 : Addr) (cs : List Nat), vs = [.ref l0] ∧ SqL K H1 l0 ((cs.map sg).map V.str) ∧ cs.length < 3900 ∧ (∀ ds : List Nat, ds.Nodup → (∀ d ∈ ds, d ∈ cs) → ds.length < 64) ∧
  ∀ (l : Addr) (ds : List Nat), H1 l = none → ds.Pairwise (· < ·) → (∀ c, c ∈ ds ↔ c ∈ cs) → Q (.ref l) (upd H1 l (.lst ((ds.map sg).map V.str)))
theorem pe_sortedSetL {X : Cx} {e : Expr} {ta : TA} {p p2 pos pos2 : Pos} (hc : X.calm = true) (hgl : Gl X "sorted") (hml : X.mg "sorted" = none) (hg : Gl X "set") (hm : X.mg "set" = none) (ha : PA X [e] ta)
    (hs : starEach [e] X.env = [(false, eval e X.env)] := by rfl) (hs2 : starEach [Expr.Call (.Name "set" p2) [e] [] pos2] X.env = [(false, eval (Expr.Call (.Name "set" p2) [e] [] pos2) X.env)] := by rfl) :
    PE X (.Call (.Name "sorted" p) [.Call (.Name "set" p2) [e] [] pos2] [] pos) (tSortedSetL X.K ta) := by
  intro pins s σ H Q I h
  refine wpAny_Call_Name_kw (ld_blt (u := .builtin "sorted") I hgl hml (by decide +kernel) ?_)
  refine PyProof.Rows.callWith_builtin1 ?_ hs2 rfl
  rw [hs2]
  show wpAny _ _ (spliced ((false, eval _ X.env) :: backTo pos [])) _ _ s
  refine Calls.spliced_cons (Call_ (ld_blt (u := .type "set") I hg hm (by decide +kernel) (PyProof.Rows.callWith_type1 (thn (ha pos2 pins s σ H _ I h) fun us s1 ⟨vs, H1, I1, r1, q1⟩ => ?_) hs rfl)))
  obtain ⟨l0, cs, e, hq, hz, h64, q⟩ := q1
  subst e
  obtain ⟨u, rfl, ru⟩ := vals1 r1
  cases ru
  obtain ⟨its, rv, pl, hlen0⟩ := I1.list hq
  have hlen1 := rv.length
  rw [List.length_map, List.length_map] at hlen1
  refine call_set_signs (cs := cs) pl.isList (fun i v hi => ?_) (by rw [List.size_toArray]; exact hlen1.symm) (I.ok.hd hc) hz fun h1 tk hS hk => Calls.spliced_nil ?_
  case refine_1 =>
    have hi' : its[i]? = some v := by simpa using hi
    have hlt : i < cs.length := by
      have := (List.getElem?_eq_some_iff.mp hi').1
      omega
    have hx : ((cs.map sg).map V.str)[i]? = some (V.str (sg cs[i])) := by
      rw [List.getElem?_map, List.getElem?_map, List.getElem?_eq_getElem hlt]; rfl
    obtain ⟨u, hu, t, rfl⟩ := rv.get hx
    rw [hi'] at hu
    cases hu
    exact ⟨cs[i], t, List.getElem?_eq_getElem hlt, rfl⟩
  refine sorted_set (s := { s1 with heap := h1, toks := tk }) (I.ok.hd hc) hS h64 fun D h2 d tk2 n vs ds hD hk2 hat hst hpw hin => ?_
  dsimp only at hD hk2 ⊢
  have hbig : s1.heap.objs.size ≤ h1.objs.size := by
    obtain ⟨es, hR, _⟩ := hS.ex
    obtain ⟨o, ea, ep, t', ho, _⟩ := hR.ex
    exact Nat.le_of_lt (Heap.lt_size ho)
  have hDn : s1.heap.objs.size ≤ D := Nat.le_trans hbig hD
  have hlen : ((ds.map sg).map V.str).length ≤ sizeLine := by
    rw [List.length_map, List.length_map]
    exact small64 (h64 ds (hpw.imp fun a => Nat.ne_of_lt a) fun d hd => (hin d).mp hd)
  have I2 : Inv X pins σ (upd H1 D (.lst ((ds.map sg).map V.str))) { s1 with heap := h2, toks := tk2 } := I1.laid (fun b o q => hk2 b o (hk b o q)) hDn ⟨hlen, vs, n, vals_of_strs hst, hat⟩
  exact ⟨.ref D, _, I2.drawn d, rfl, q D ds (I1.hok.fresh hDn) hpw hin⟩
end L2
set_option Elab.async false
set_option linter.all false
set_option maxRecDepth 100000
set_option maxHeartbeats 8000000
namespace Lv
open PySem L2
section
variable {P : Program} {w : World} {K : PySem.W.Frag} {mg : Str → Option Value} {base : Heap} {f : Addr} {fd : FuncData}
abbrev sLawSomeLetters : Stmt := top 17
def nLawSomeLetters : List Str := ["draws", "signs", "every", "way", "some", "k", "letter"]
theorem scLawSomeLetters : FnScope nLawSomeLetters ["draws", "signs"] (defScope sLawSomeLetters) := ⟨rfl, rfl, rfl, by decide +kernel, rfl, by decide +kernel, by decide +kernel⟩
theorem ok_someL (T : Glb mg) (c_law_take : Callee P w K mg base 1 "_law_take" ["draws", "many"] spTake) (c_law_abc : Callee P w K mg base 1 "_law_abc" ["k"] spAbc) (F : Fun K "_law_some_letters" "_law_some_letters" sLawSomeLetters f fd) : FnOk P w K mg base CX0 2 f fd ["draws", "signs"] spSomeL := by
  refine F.ok scLawSomeLetters (fun vs H Q E h => ?_) (fun cdv A outer s H vs Q E hr h => ?_)
  · obtain ⟨p, q0, cs, rfl, _⟩ := h
    rfl
  obtain ⟨p, q0, cs, rfl, hD, hS, nqp, q⟩ := h
  have hu := hu_of hr
  refine' ⟨_, ?TT, ?RR⟩
  case TT =>
    refine' pss_cons ?x1 ?x2
    case x1 =>
     refine' ps_set (i := 2) scLawSomeLetters.nd rfl (Or.inl rfl) ?x3
     case x3 =>
      exact pe_str
    case x2 =>
     refine' pss_cons ?x4 ?x5
     case x4 =>
      refine' ps_set (i := 3) scLawSomeLetters.nd rfl (Or.inl rfl) ?x6
      case x6 =>
       refine' pe_callC c_law_take hr rfl ?x7
       case x7 =>
        refine' pa_Name (pv 0) ?x8
        case x8 =>
         refine' pa_Const ?x9 ?x10
         case x9 =>
          exact pe_int
         case x10 =>
          exact pa_nil
     case x5 =>
      refine' pss_cons ?x11 ?x12
      case x11 =>
       refine' ps_set (i := 4) scLawSomeLetters.nd rfl (Or.inl rfl) ?x13
       case x13 =>
        refine' pe_callTy call_list_of rfl T.m_list (by decide +kernel) ?x14
        case x14 =>
         refine' pa_Name (pv 1) ?x15
         case x15 =>
          exact pa_nil
      case x12 =>
       refine' pss_cons ?x16 ?x17
       case x16 =>
        refine' ps_cut ?x18
        case x18 =>
         refine' ps_if ?x19 ?x20 ?x21
         case x19 =>
          refine' pt_cmpR op_eq (pv 3) ?x22 (nomark _)
          case x22 =>
           exact pe_int
         case x20 =>
          refine' pss_one ?x23
          case x23 =>
           refine' ps_set (i := 4) scLawSomeLetters.nd rfl (Or.inl rfl) ?x24
           case x24 =>
            refine' pe_op op_cat ?x25 ?x26
            case x25 =>
             refine' pe_lc (own := [("k", 5), ("letter", 6)]) (g := (gTup K 2 (gCons (gName 5) (gCons (gName 6) gNil)))) (by rfl) scLawSomeLetters.nd ?x27 (blkOk_by (own := [("k", 5), ("letter", 6)]) (N := nLawSomeLetters) (sc := defScope sLawSomeLetters) (by decide +kernel)) (fun _ _ _ _ _ => pg_tupK (K := K) rfl (pg_tup rfl (pgs_cons (pg_name (i := 5) scLawSomeLetters.nd rfl (Or.inl rfl)) (pgs_cons (pg_name (i := 6) scLawSomeLetters.nd rfl (Or.inl rfl)) pgs_nil)))) ?x28 (fun _ _ _ _ _ => (pv 6))
             case x27 =>
              refine' pi_enum rfl T.m_enumerate ?x29
              case x29 =>
               refine' pa_Name (pv 1) ?x30
               case x30 =>
                exact pa_nil
             case x28 =>
              intro _ _ _ _ _
              exact pts_one (pt_cmpR op_gt (pe_op op_mod (pe_op op_add (pv 5) (pe_callC c_law_take hr rfl (by exact pa_Name (pv 0) (by exact pa_Const pe_int pa_nil)))) pe_int) pe_int (nomark _))
            case x26 =>
             exact (pe_slice sl_list (pv 1) po_none (po_some pe_int))
         case x21 =>
          exact pss_nil
       case x17 =>
        refine' pss_cons ?x31 ?x32
        case x31 =>
         refine' ps_cut ?x33
         case x33 =>
          refine' ps_if ?x34 ?x35 ?x36
          case x34 =>
           refine' pt_cmpR op_eq (pv 3) ?x37 (nomark _)
           case x37 =>
            exact pe_int
          case x35 =>
           refine' pss_one ?x38
           case x38 =>
            refine' ps_set (i := 4) scLawSomeLetters.nd rfl (Or.inl rfl) ?x39
            case x39 =>
             refine' pe_op op_cat (pv 4) ?x40
             case x40 =>
              refine' pe_lst ?x41
              case x41 =>
               refine' pa_Call ?x42 ?x43
               case x42 =>
                refine' pe_callC c_law_abc hr rfl ?x44
                case x44 =>
                 refine' pa_Call ?x45 ?x46
                 case x45 =>
                  refine' pe_callC c_law_take hr rfl ?x47
                  case x47 =>
                   refine' pa_Name (pv 0) ?x48
                   case x48 =>
                    refine' pa_Const ?x49 ?x50
                    case x49 =>
                     exact pe_int
                    case x50 =>
                     exact pa_nil
                 case x46 =>
                  exact pa_nil
               case x43 =>
                exact pa_nil
          case x36 =>
           exact pss_nil
        case x32 =>
         refine' pss_cons ?x51 ?x52
         case x51 =>
          refine' ps_cut ?x53
          case x53 =>
           refine' ps_if ?x54 ?x55 ?x56
           case x54 =>
            refine' pt_cmpR op_eq (pv 3) ?x57 (nomark _)
            case x57 =>
             exact pe_int
           case x55 =>
            refine' pss_one ?x58
            case x58 =>
             refine' ps_set (i := 4) scLawSomeLetters.nd rfl (Or.inl rfl) ?x59
             case x59 =>
              refine' pe_lst ?x60
              case x60 =>
               refine' pa_Subscript ?x61 ?x62
               case x61 =>
                refine' pe_ix ix_list (pv 1) ?x63 (fun _ _ => rfl)
                case x63 =>
                 refine' pe_callC c_law_take hr rfl ?x64
                 case x64 =>
                  refine' pa_Name (pv 0) ?x65
                  case x65 =>
                   refine' pa_Call ?x66 ?x67
                   case x66 =>
                    refine' pe_callB call_len_seq rfl T.m_len PySem.boot_len ?x68
                    case x68 =>
                     refine' pa_Name (pv 1) ?x69
                     case x69 =>
                      exact pa_nil
                   case x67 =>
                    exact pa_nil
               case x62 =>
                exact pa_nil
           case x56 =>
            exact pss_nil
         case x52 =>
          refine' pss_cons ?x70 ?x71
          case x70 =>
           refine' ps_cut ?x72
           case x72 =>
            refine' ps_if ?x73 ?x74 ?x75
            case x73 =>
             refine' pt_cmpR op_eq (pv 3) ?x76 (nomark _)
             case x76 =>
              exact pe_int
            case x74 =>
             refine' pss_one ?x77
             case x77 =>
              refine' ps_setLc (i := 4) (own := [("k", 5)]) (g := gName 5) (by rfl) scLawSomeLetters.nd rfl rfl (sw_true rfl rfl rfl (by decide +kernel)) ?x78 (blkOk_by (own := [("k", 5)]) (N := nLawSomeLetters) (sc := defScope sLawSomeLetters) (by decide +kernel)) (fun _ _ _ _ _ => pg_name (i := 5) scLawSomeLetters.nd rfl (Or.inl rfl)) ?x79 ?x80
              case x78 =>
               refine' pi_range1 rfl T.m_range ?x81
               case x81 =>
                refine' pa_BinOp ?x82 ?x83
                case x82 =>
                 refine' pe_op op_add ?x84 ?x85
                 case x84 =>
                  exact pe_int
                 case x85 =>
                  refine' pe_callC c_law_take hr rfl ?x86
                  case x86 =>
                   refine' pa_Name (pv 0) ?x87
                   case x87 =>
                    refine' pa_Const ?x88 ?x89
                    case x88 =>
                     exact pe_int
                    case x89 =>
                     exact pa_nil
                case x83 =>
                 exact pa_nil
              case x79 =>
               intro _ _ _ _ _
               exact pts_nil
              case x80 =>
               intro _ _ _ _ _
               refine' pe_callC c_law_abc hr rfl ?x90
               case x90 =>
                refine' pa_Call ?x91 ?x92
                case x91 =>
                 refine' pe_callC c_law_take hr rfl ?x93
                 case x93 =>
                  refine' pa_Name (pv 0) ?x94
                  case x94 =>
                   refine' pa_Const ?x95 ?x96
                   case x95 =>
                    exact pe_int
                   case x96 =>
                    exact pa_nil
                case x92 =>
                 exact pa_nil
            case x75 =>
             exact pss_nil
          case x71 =>
           refine' pss_cons ?x97 ?x98
           case x97 =>
            refine' ps_cut ?x99
            case x99 =>
             refine' ps_if ?x100 ?x101 ?x102
             case x100 =>
              refine' PW.pt ?x103
              case x103 =>
               refine' pw_and ?x104 ?x105
               case x104 =>
                refine' pt_cmpR op_eq (pv 3) ?x106 (nomark _)
                case x106 =>
                 exact pe_int
               case x105 =>
                refine' pw_and1 ?x107
                case x107 =>
                 refine' pt_cmpR op_eq ?x108 ?x109 (nomark _)
                 case x108 =>
                  refine' pe_callC c_law_take hr rfl ?x110
                  case x110 =>
                   refine' pa_Name (pv 0) ?x111
                   case x111 =>
                    refine' pa_Const ?x112 ?x113
                    case x112 =>
                     exact pe_int
                    case x113 =>
                     exact pa_nil
                 case x109 =>
                  exact pe_int
             case x101 =>
              refine' pss_one ?x114
              case x114 =>
               refine' ps_set (i := 4) scLawSomeLetters.nd rfl (Or.inl rfl) ?x115
               case x115 =>
                refine' pe_callTy (cr_listS rfl) rfl T.m_list (by decide +kernel) ?x116
                case x116 =>
                 refine' pa_Name (pv 2) ?x117
                 case x117 =>
                  exact pa_nil
             case x102 =>
              exact pss_nil
           case x98 =>
            refine' pss_one ?x118
            case x118 =>
             refine' ps_ret ?x119
             case x119 =>
              refine' pe_join ?x120 ?x121
              case x120 =>
               exact pe_str
              case x121 =>
               refine' pe_sortedSetL rfl rfl T.m_sorted rfl T.m_set ?x122
               case x122 =>
                refine' pa_Name (pv 4) ?x123
                case x123 =>
                 exact pa_nil
  case RR =>
    refine ⟨_, rfl, p, 6, rfl, hD, by decide, fun way H1 w0 w1 hD1 k1 => ?_⟩
    have hS1 := hS.kp k1 nqp
    refine ⟨_, rfl, q0, _, rfl, .inl (SqL.of hS1.at_), fun m0 nm0 => ?_⟩
    generalize jm : upd _ m0 _ = G1
    have sm := upS jm nm0; have em := upE jm
    have hD1' := hD1.same sm
    have nm0p : m0 ≠ p := hD1.ne nm0
    have kG1 : Kp p H G1 := k1.trans (sm.kp p)
    -- 1
    refine ⟨fun σ' H' => ∃ (m : Addr) (ds : List Nat), σ' = [some (.ref p), some (.ref q0), some (.str (Str.ofString "abcdefghijklmnopqrstuvwxyz")), some (.int way), some (.ref m), none, none] ∧ SmAt H' m ds ∧ m ≠ p ∧ DrawsAt H' p ∧ ds.length ≤ 55 ∧ Kp p H H', ?_, ?_⟩
    · refine ⟨_, rfl, rfl, _, rfl, ?_⟩
      refine ite2 (fun _ => ?_) (fun _ => ?_)
      · have hSG := hS1.same sm
        refine ⟨_, rfl, q0, _, rfl, SqL.of hSG.at_, fun D nD => ?_⟩
        have nDp : D ≠ p := hD1'.ne nD
        have nDH : H D = none := kG1.freeD hD1' nD
        refine lc_enumL (K := K) (a := q0) (xs := (cs.map sg).map V.str) (fun i H5 => DrawsAt H5 p ∧ Kp p H H5 ∧ ∃ ds : List Nat, ds.length ≤ i ∧ (∀ d ∈ ds, d ∈ cs) ∧ H5 D = some (.lst ((ds.map sg).map V.str))) ?_ ?_ ?_ ?_
        · exact ⟨hD1'.same (same_new nD _), kG1.trans ((same_new nD _).kp p), [], Nat.le_refl _, (fun d hd => nomatch hd), upd_same⟩
        · rintro i H5 _ ⟨_, k5, _⟩
          exact SqL.of (hS.kp k5 nqp).at_
        · rintro i v U H5 hv ⟨hD5, k5, ds, hl, hds, h5⟩ hU
          rw [List.getElem?_map, List.getElem?_map, Option.map_map] at hv
          obtain ⟨d, hd, rfl⟩ := Option.map_eq_some_iff.mp hv
          have hi : i < cs.length := (List.getElem?_eq_some_iff.mp hd).1
          have hcs := hS.le
          have sU := same_new hU (.tup [.int (i : Nat), .str (sg d)])
          have eU : (upd H5 U (.tup [.int (i : Nat), .str (sg d)])) U = some (.tup [.int (i : Nat), .str (sg d)]) := upd_same
          show gTup K 2 (gCons (gName 5) (gCons (gName 6) gNil)) (V.ref U) _ (upd H5 U (.tup [.int (i : Nat), .str (sg d)])) _
          generalize upd H5 U (.tup [.int (i : Nat), .str (sg d)]) = G5 at sU eU
          refine ⟨U, _, rfl, SqT.of eU, rfl, _, _, rfl, _, _, rfl, rfl, rfl, ?_⟩
          refine ⟨_, rfl, _, rfl, p, 3, rfl, hD5.same sU, by decide, fun v H6 _ _ hD6 k6 => ?_⟩
          refine ⟨_, _, rfl, rfl, _, _, rfl, rfl, (by show (0 : Int) < 3; decide), _, _, rfl, rfl, _, rfl, ?_⟩
          have h6 := k6 _ _ (sU _ _ h5) nDp
          have kH6 : Kp p H H6 := (k5.trans (sU.kp p)).trans k6
          refine ite2 (fun _ => ?_) (fun _ => ?_)
          · refine ⟨_, rfl, _, h6, by rw [List.length_map, List.length_map]; exact small1000 (by omega), hD6.over nDp, kH6.over nDH, ds ++ [d], by rw [List.length_append]; exact Nat.succ_le_succ hl, fun x hx => ?_, ?_⟩
            · rcases List.mem_append.mp hx with hx | hx
              · exact hds x hx
              · rw [List.mem_singleton.mp hx]; exact List.mem_of_getElem? hd
            · rw [upd_same, List.map_append, List.map_append]; rfl
          · exact ⟨hD6, kH6, ds, Nat.le_succ_of_le hl, hds, h6⟩
        rintro H5 ⟨hD5, k5, ds, hl, hds, h5⟩
        rw [List.length_map, List.length_map] at hl
        have hS5 := hS.kp k5 nqp
        refine ⟨_, rfl, _, rfl, q0, _, rfl, SqL.of hS5.at_, fun p2 np2 => ?_⟩
        have s7 := same_new np2 (.lst (cutV ((cs.map sg).map V.str) none (some 1)))
        have e7 : (upd H5 p2 (.lst (cutV ((cs.map sg).map V.str) none (some 1)))) p2 = some (.lst (cutV ((cs.map sg).map V.str) none (some 1))) := upd_same
        generalize upd H5 p2 (.lst (cutV ((cs.map sg).map V.str) none (some 1))) = G7 at s7 e7
        have hcs := hS.le
        have ecut : cutV ((cs.map sg).map V.str) none (some 1) = (((cs.take 1).map sg).map V.str) := by
          rw [cutV_one, List.map_take, List.map_take]
        rw [ecut] at e7
        refine ⟨D, p2, _, _, rfl, rfl, s7 _ _ h5, e7, by rw [List.length_map, List.length_map, List.length_map, List.length_map, List.length_take]; exact small80 (by omega), fun l2 nl2 => ?_⟩
        have s8 := same_new nl2 (.lst ((ds.map sg).map V.str ++ ((cs.take 1).map sg).map V.str))
        refine ⟨l2, ds ++ cs.take 1, rfl, ⟨by rw [upd_same, List.map_append, List.map_append], ?_, ?_, ?_⟩, (hD5.same s7).ne nl2, (hD5.same s7).same s8, by rw [List.length_append, List.length_take]; omega, k5.trans ((s7.trans s8).kp p)⟩
        · intro e
          have h1 := (List.append_eq_nil_iff.mp e).2
          have h2 := congrArg List.length h1
          rw [List.length_take] at h2
          have := hS.pos
          have h3 : min 1 cs.length = 0 := h2
          omega
        · rw [List.length_append, List.length_take]; omega
        · intro c hc
          rcases List.mem_append.mp hc with hc | hc
          · exact hS.ok c (hds c hc)
          · exact hS.ok c (List.mem_of_mem_take hc)
      · exact ⟨m0, cs, rfl, ⟨em, hS.ne, by have := hS.le; omega, hS.ok⟩, nm0p, hD1', by have := hS.le; omega, kG1⟩
    rintro σ' H2 ⟨m, ds, rfl, hm, nmp, hD2, hml0, k2⟩
    -- 2
    refine ⟨fun σ' H' => ∃ (m : Addr) (ds : List Nat), σ' = [some (.ref p), some (.ref q0), some (.str (Str.ofString "abcdefghijklmnopqrstuvwxyz")), some (.int way), some (.ref m), none, none] ∧ SmAt H' m ds ∧ m ≠ p ∧ DrawsAt H' p ∧ Kp p H H', ?_, ?_⟩
    · refine ⟨_, rfl, rfl, _, rfl, ?_⟩
      refine ite2 (fun _ => ?_) (fun _ => ?_)
      · refine ⟨_, rfl, _, rfl, p, 26, rfl, hD2, by decide, fun v H3 _ _ hD3 k3 => ?_⟩
        refine ⟨_, rfl, (by show 1 ≤ sizeLine; decide), fun l nl => ?_⟩
        generalize jl : upd _ l _ = G3
        have sl := upS jl nl; have el := upE jl
        have hm3 := sl _ _ (k3 _ _ hm.at_ nmp)
        have hml := hm.le
        refine ⟨m, l, _, _, rfl, rfl, hm3, el, by rw [List.length_map, List.length_map]; exact small80 (by show _ + 1 ≤ _; omega), fun l2 nl2 => ?_⟩
        have hD4 := hD3.same sl
        have s8 := same_new nl2 (.lst ((ds.map sg).map V.str ++ [V.str (sg (abcC v))]))
        refine ⟨l2, ds ++ [abcC v], rfl, ⟨by rw [upd_same, List.map_append, List.map_append]; rfl, by simp, by rw [List.length_append]; show _ + 1 ≤ _; omega, fun c hc => ?_⟩, hD4.ne nl2, hD4.same s8, (k2.trans k3).trans ((sl.trans s8).kp p)⟩
        rcases List.mem_append.mp hc with hc | hc
        · exact hm.ok c hc
        · rw [List.mem_singleton.mp hc]; exact abcC_ok _
      · exact ⟨m, ds, rfl, hm, nmp, hD2, k2⟩
    clear hm nmp hD2 k2 hml0
    rintro σ' H2 ⟨m, ds, rfl, hm, nmp, hD2, k2⟩
    -- 3
    refine ⟨fun σ' H' => ∃ (m : Addr) (ds : List Nat), σ' = [some (.ref p), some (.ref q0), some (.str (Str.ofString "abcdefghijklmnopqrstuvwxyz")), some (.int way), some (.ref m), none, none] ∧ SmAt H' m ds ∧ m ≠ p ∧ DrawsAt H' p ∧ Kp p H H', ?_, ?_⟩
    · refine ⟨_, rfl, rfl, _, rfl, ?_⟩
      refine ite2 (fun _ => ?_) (fun _ => ?_)
      · have hS2 := hS.kp k2 nqp
        have hlen : (((cs.map sg).map V.str).length : Int) = (cs.length : Int) := by rw [List.length_map, List.length_map]
        have hpos := hS.pos
        refine ⟨_, rfl, _, rfl, _, rfl, q0, _, rfl, .inl (SqL.of hS2.at_), p, _, rfl, hD2, by rw [hlen]; omega, fun v H3 v0 v1 hD3 k3 => ?_⟩
        rw [hlen] at v1
        obtain ⟨c, hc, hat⟩ := sgs_at' v0 v1
        refine ⟨q0, _, _, _, rfl, rfl, SqL.of (hS2.kp k3 nqp).at_, hat, (by show 1 ≤ sizeLine; decide), fun l nl => ?_⟩
        have s8 := same_new nl (.lst [V.str (sg c)])
        exact ⟨l, [c], rfl, ⟨upd_same, by simp, by show 1 ≤ 60; decide, fun d hd => by rw [List.mem_singleton.mp hd]; exact hS.ok c hc⟩, hD3.ne nl, hD3.same s8, (k2.trans k3).trans (s8.kp p)⟩
      · exact ⟨m, ds, rfl, hm, nmp, hD2, k2⟩
    clear hm nmp hD2 k2
    rintro σ' H2 ⟨m, ds, rfl, hm, nmp, hD2, k2⟩
    -- 4
    refine ⟨fun σ' H' => ∃ (m : Addr) (ds : List Nat), σ' = [some (.ref p), some (.ref q0), some (.str (Str.ofString "abcdefghijklmnopqrstuvwxyz")), some (.int way), some (.ref m), none, none] ∧ SmAt H' m ds ∧ m ≠ p ∧ DrawsAt H' p ∧ Kp p H H', ?_, ?_⟩
    · refine ⟨_, rfl, rfl, _, rfl, ?_⟩
      refine ite2 (fun _ => ?_) (fun _ => ?_)
      · refine ⟨_, rfl, p, 5, rfl, hD2, by decide, fun v H3 v0 v1 hD3 k3 => ?_⟩
        refine ⟨_, _, rfl, rfl, 1 + v, rfl, by omega, by omega, fun D nD => ?_⟩
        have nDp : D ≠ p := hD3.ne nD
        have kH3 := k2.trans k3
        have nDH : H D = none := kH3.freeD hD3 nD
        refine lc_range (lo := 0) (n := (1 + v).toNat) (fun i H5 => DrawsAt H5 p ∧ Kp p H H5 ∧ ∃ ds : List Nat, ds.length = i ∧ (∀ d ∈ ds, 97 ≤ d ∧ d ≤ 122) ∧ H5 D = some (.lst ((ds.map sg).map V.str))) ?_ ?_ ?_
        · exact ⟨hD3.same (same_new nD _), kH3.trans ((same_new nD _).kp p), [], rfl, (fun d hd => nomatch hd), upd_same⟩
        · rintro i H5 hi ⟨hD5, k5, ds, hl, hds, h5⟩
          refine ⟨rfl, ?_⟩
          refine ⟨_, rfl, p, 26, rfl, hD5, by decide, fun v6 H6 _ _ hD6 k6 => ?_⟩
          refine ⟨_, rfl, _, k6 _ _ h5 nDp, by rw [List.length_map, List.length_map]; exact small1000 (by omega), hD6.over nDp, (k5.trans k6).over nDH, ds ++ [abcC v6], by rw [List.length_append, hl]; rfl, fun d hd => ?_, ?_⟩
          · rcases List.mem_append.mp hd with hd | hd
            · exact hds d hd
            · rw [List.mem_singleton.mp hd]; exact abcC_ok _
          · rw [upd_same, List.map_append, List.map_append]; rfl
        rintro H5 ⟨hD5, k5, ds, hl, hds, h5⟩
        refine ⟨D, ds, rfl, ⟨h5, fun e => ?_, by omega, hds⟩, nDp, hD5, k5⟩
        rw [e] at hl
        have hl' : 0 = (1 + v).toNat := hl
        omega
      · exact ⟨m, ds, rfl, hm, nmp, hD2, k2⟩
    clear hm nmp hD2 k2
    rintro σ' H2 ⟨m, ds, rfl, hm, nmp, hD2, k2⟩
    -- 5
    refine ⟨fun σ' H' => ∃ (m : Addr) (ds : List Nat), σ' = [some (.ref p), some (.ref q0), some (.str (Str.ofString "abcdefghijklmnopqrstuvwxyz")), some (.int way), some (.ref m), none, none] ∧ SmAt H' m ds ∧ m ≠ p ∧ DrawsAt H' p ∧ Kp p H H', ?_, ?_⟩
    · refine ⟨_, rfl, rfl, _, rfl, ?_⟩
      refine ite2 (fun _ => ?_) (fun _ => ?_)
      · refine ⟨_, rfl, p, 4, rfl, hD2, by decide, fun v H3 _ _ hD3 k3 => ?_⟩
        refine ⟨rfl, _, rfl, ?_⟩
        refine ite2 (fun _ => ?_) (fun _ => ?_)
        · refine ⟨_, rfl, _, rfl, by decide +kernel, fun l nl => ?_⟩
          have e26 : (Str.ofString "abcdefghijklmnopqrstuvwxyz").cps.toList = (List.range 26).map (97 + ·) := by decide +kernel
          have s8 := same_new nl (.lst (sgs (Str.ofString "abcdefghijklmnopqrstuvwxyz").cps.toList))
          refine ⟨l, (List.range 26).map (97 + ·), rfl, ⟨by rw [upd_same, sgs_map, e26], by simp, by rw [List.length_map, List.length_range]; decide, fun c hc => ?_⟩, hD3.ne nl, hD3.same s8, (k2.trans k3).trans (s8.kp p)⟩
          obtain ⟨j, hj, rfl⟩ := List.mem_map.mp hc
          have := List.mem_range.mp hj
          omega
        · exact ⟨m, ds, rfl, ⟨k3 _ _ hm.at_ nmp, hm.ne, hm.le, hm.ok⟩, nmp, hD3, k2.trans k3⟩
      · exact ⟨m, ds, rfl, hm, nmp, hD2, k2⟩
    clear hm nmp hD2 k2
    rintro σ' H2 ⟨m, ds, rfl, hm, nmp, hD2, k2⟩
    have hle := hm.le
    have row26 : ∀ es : List Nat, es.Nodup → (∀ d ∈ es, d ∈ ds) → es.length ≤ 26 := fun es hnd hin => by
      have h1 := nodup_len (l := es) (m := (List.range 26).map (97 + ·)) hnd fun d hd => by
        obtain ⟨a, b⟩ := hm.ok d (hin d hd)
        exact List.mem_map.mpr ⟨d - 97, List.mem_range.mpr (by omega), by omega⟩
      rw [List.length_map, List.length_range] at h1
      exact h1
    refine ⟨⟨_, rfl⟩, _, rfl, m, ds, rfl, SqL.of hm.at_, by omega, fun es hnd hin => by have := row26 es hnd hin; omega, fun l es nl hpw hin => ?_⟩
    have h26 := row26 es (hpw.imp fun a => Nat.ne_of_lt a) fun d hd => (hin d).mp hd
    have s8 := same_new nl (.lst ((es.map sg).map V.str))
    refine ⟨_, l, es.map sg, rfl, rfl, .inl (SqL.of upd_same), ?_, ?_⟩
    · rw [sum_sg]
      show es.length + (es.map sg).length * 0 ≤ 16777216
      omega
    have ej : (Txt.join (Str.ofString "") (es.map sg)).cps.toList = es := join_sg _
    refine q _ _ ⟨fun c hc => ?_, ?_, ?_⟩ (by rw [len_cps, ej]; exact h26) (hD2.same s8) (k2.trans (s8.kp p))
    · rw [ej] at hc
      exact hm.ok c ((hin c).mp hc)
    · rw [ej]
      intro e
      obtain ⟨c, r, hcr⟩ := List.exists_cons_of_ne_nil hm.ne
      have h9 := (hin c).mpr (by rw [hcr]; exact List.mem_cons_self)
      rw [e] at h9; cases h9
    · rw [ej]; exact hpw
end
end Lv
set_option Elab.async false
set_option linter.all false
set_option maxRecDepth 100000
namespace L2
open PySem PySem.Spec PyProof.Rows
end L2
namespace L2
open PySem PySem.Spec PyProof.Rows
def rLtL (K : PySem.W.Frag) : R2 := fun x y H Q => ∃ (a b : Addr) (ns ms : List Nat) (j p q : Nat), x = .ref a ∧ y = .ref b ∧ SqL K H a (ns.map fun k => V.int (k : Nat)) ∧ SqL K H b (ms.map fun k => V.int (k : Nat)) ∧ ns[j]? = some p ∧ ms[j]? = some q ∧ p < q ∧ ns.take j = ms.take j ∧ Q (.bl true) H
end L2
set_option Elab.async false
set_option linter.all false
set_option maxRecDepth 100000
namespace L2
open PySem PySem.Spec PyProof.Rows
/-- all but the exception and the frames' slots stays -/
structure But (fs : List Addr) (ch : List Addr) (h h' : Heap) : Prop where
  keep : ∀ b o, b ∉ ch → b ∉ fs → h.get? b = some o → h'.get? b = some o
  slot : ∀ b o, b ∉ ch → h.get? b = some o → ∃ sl, h'.get? b = some { o with slots := sl }
/-- an exception with a trace at T whose flight is fl -/
structure FlyAt (h : Heap) (e T : Addr) (cls fl : Value) : Prop where
  ex : ∃ oe vs oT ts, h.get? e = some oe ∧ oe.cls = cls ∧ oe.data = Data.fields vs ∧ vs[1]? = some (Value.ref T) ∧ T ≠ e ∧ h.get? T = some oT ∧ oT.data = Data.fields ts ∧ ts[3]? = some fl
section
variable {M : Model} {A : Around} {E : Value → Shared → Prop} {s : Shared} {env : Env} {outer : List Env} {base : Heap} {L e : Addr} {oe : Obj} {vs : Array Value} {Q : Unit → Shared → Prop}
end
end L2
set_option Elab.async false
set_option linter.all false
set_option maxRecDepth 100000
namespace L2
open PySem PySem.Spec PyProof.Rows
theorem But.frames {fs ch : List Addr} {h h' base : Heap} (b : But fs ch h h') : ∀ {l : List Env}, (∀ c ∈ frs l, c ∉ ch) → h.FunFrames base l → h'.FunFrames base l
  | [], _, _ => trivial
  | env :: r, hs, hl => by
    obtain ⟨hk, ⟨L, o, hf, hn, ho, hd⟩, hr⟩ := hl
    have hL : L ∈ frs (env :: r) := by unfold frs; rw [List.filterMap_cons, hf]; exact List.mem_cons_self
    obtain ⟨sl, e⟩ := b.slot L o (hs L hL) ho
    exact ⟨hk, ⟨L, _, hf, hn, e, hd⟩, b.frames (fun c hc => hs c (by unfold frs at hc ⊢; rw [List.filterMap_cons, hf]; exact List.mem_cons_of_mem _ hc)) hr⟩
theorem But.mono {fs fs' ch ch' : List Addr} {h h' : Heap} (b : But fs ch h h') (h1 : ∀ x ∈ fs, x ∈ fs') (h2 : ∀ x ∈ ch, x ∈ ch') : But fs' ch' h h' :=
  ⟨fun c o n1 n2 => b.keep c o (fun z => n1 (h2 c z)) (fun z => n2 (h1 c z)), fun c o n => b.slot c o (fun z => n (h2 c z))⟩
theorem But.trans {fs ch : List Addr} {h h1 h2 : Heap} (a : But fs ch h h1) (b : But fs ch h1 h2) : But fs ch h h2 :=
  ⟨fun c o n1 n2 q => b.keep c o n1 n2 (a.keep c o n1 n2 q), fun c o n q => by
    obtain ⟨sl, e⟩ := a.slot c o n q
    obtain ⟨sl', e'⟩ := b.slot c _ n e
    exact ⟨sl', e'⟩⟩
section
variable {M : Model} {A : Around} {E : Value → Shared → Prop} {s : Shared} {env : Env} {outer : List Env} {base : Heap} {L e : Addr} {Q : Unit → Shared → Prop}
end
end L2
set_option Elab.async false
set_option linter.all false
set_option maxRecDepth 100000
namespace L2
open PySem PySem.Spec PyProof.Rows
/-- how an exception of an own class lies behind a call -/
def CXe (P : Program) (w : World) : CXT := fun outer H s E e s' => ∃ (a T C : Addr) (H' : Hp), e = .ref a ∧ s'.os = s.os ∧ AllBare s'.gens ∧ Un (frs outer) [] H H' s.heap s'.heap ∧ HOk P w H' s'.heap ∧ FlyAt s'.heap a T (.ref C) Value.none ∧ s.heap.get? a = none ∧ s.heap.get? T = none ∧ H' a = none ∧ H' T = none ∧ E (.ref C) none H'
theorem hok_free {P : Program} {w : World} {H : Hp} {h : Heap} (x : HOk P w H h) {a : Addr} (e : h.get? a = none) : H a = none := by
  cases q : H a with
  | none => rfl
  | some u => obtain ⟨v, z⟩ := (x a u q).ex; rw [e] at z; cases z
end L2
set_option Elab.async false
set_option linter.all false
set_option maxRecDepth 100000
namespace L2
open PySem PySem.Spec PyProof.Rows
end L2
set_option Elab.async false
set_option linter.all false
set_option maxRecDepth 100000
namespace L2
open PySem PySem.Spec PyProof.Rows
section
variable {X : Cx} {pins : List (Addr × Obj)} {σ : St} {H : Hp} {s : Shared} {h' : Heap}
/-- a thing of nobody: made since the entry, not tracked, no frame, no cell, no pin -/
structure Loose (X : Cx) (pins : List (Addr × Obj)) (H : Hp) (b : Addr) : Prop where
  un : H b = none
  up : X.s_0.heap.get? b = none
  nl : b ≠ X.env.locals
  nc : ∀ x c, X.env.cells.lookup x = some c → c ≠ b
  np : ∀ p ∈ X.pn ++ pins, p.1 ≠ b
theorem Inv.loose (I : Inv X pins σ H s) {b : Addr} (hx : b ∉ X.ex) (e : s.heap.get? b = none) : Loose X pins H b := by
  refine ⟨hok_free I.hok e, ?_, ?_, ?_, ?_⟩
  · cases q : X.s_0.heap.get? b with
    | none => rfl
    | some o =>
      obtain ⟨o', z⟩ := I.base.there b o q (fun z => hx z)
      rw [e] at z; cases z
  · intro z
    obtain ⟨m, ⟨o, _, _, ho, _⟩, _⟩ := I.loc
    rw [← z, e] at ho; cases ho
  · intro x c hc z
    obtain ⟨v, o, ho, _⟩ := I.cell x c hc
    rw [z, e] at ho; cases ho
  · intro p hp z
    have := (I.pin p hp).1
    rw [z, e] at this; cases this
theorem Inv.but {ch : List Addr} (I : Inv X pins σ H s) (b : But (frs X.stack) ch s.heap h') (hl : ∀ c ∈ ch, Loose X pins H c) : Inv X pins σ H { s with heap := h' } := by
  have nch : ∀ c u, H c = some u → c ∉ ch := fun c u e z => by rw [(hl c z).un] at e; cases e
  have n0 : ∀ c o, X.s_0.heap.get? c = some o → c ∉ ch := fun c o e z => by rw [(hl c z).up] at e; cases e
  have ns : ∀ c o, X.s_0.heap.get? c = some o → c ∉ X.fs → c ∉ frs X.stack := fun c o e n z => by
    rcases List.mem_cons.mp (I.stkSub c z) with z | z
    · have h1 := Heap.lt_size e
      have h2 := I.ok.above
      rw [z] at h1
      exact absurd h1 (Nat.not_lt.mpr h2)
    · exact n z
  refine ⟨I.ok, I.os, I.bare, ⟨fun c o e n n1 n2 => b.keep c o (n0 c o e) (ns c o e n1) (I.base.keep c o e n n1 n2), fun c o e n n1 n2 => ?_, I.base.free, fun c o e n => ?_, I.base.tups, I.base.frzs, I.base.tbls⟩, ?_, fun x c e => ?_, I.free, I.freeC, fun p hp => ?_, fun c u e => ?_, I.len⟩
  · obtain ⟨sl, q⟩ := I.base.slot c o e n n1 n2
    obtain ⟨sl', q'⟩ := b.slot c _ (n0 c o e) q
    exact ⟨sl', q'⟩
  · obtain ⟨o', q⟩ := I.base.there c o e n
    obtain ⟨sl, q'⟩ := b.slot c o' (n0 c o e) q
    exact ⟨_, q'⟩
  · obtain ⟨m, ⟨o, es, ep, ho, r⟩, hv⟩ := I.loc
    obtain ⟨sl, q⟩ := b.slot _ o (fun z => (hl _ z).nl rfl) ho
    refine ⟨m, ⟨_, es, ep, q, r⟩, fun i x v h1 h2 h3 => ?_⟩
    obtain ⟨u, ru, lk⟩ := hv i x v h1 h2 h3
    refine ⟨u, ru, ?_⟩
    rcases lk with lk | ⟨lk, c, hc, o', ho', hd'⟩
    · exact .inl lk
    · obtain ⟨sl', q'⟩ := b.slot c o' (fun z => (hl c z).nc x c hc rfl) ho'
      exact .inr ⟨lk, c, hc, _, q', hd'⟩
  · obtain ⟨v, o', ho', hd'⟩ := I.cell x c e
    obtain ⟨sl', q'⟩ := b.slot c o' (fun z => (hl c z).nc x c e rfl) ho'
    exact ⟨v, _, q', hd'⟩
  · obtain ⟨q1, q2, q3, q4, q5⟩ := I.pin p hp
    refine ⟨b.keep p.1 p.2 (fun z => (hl _ z).np p hp rfl) (fun z => ?_) q1, q2, q3, q4, q5⟩
    rcases List.mem_cons.mp (I.stkSub _ z) with z | z
    · exact q3 z
    · exact q4 z
  · refine (I.hok c u e).stay (fun d v hd q => ?_) (fun _ q => q) fun _ _ q => q
    have tr : ∃ w, H d = some w := by
      rcases hd with rfl | hd
      · exact ⟨_, e⟩
      · exact ⟨_, hd⟩
    obtain ⟨w', hw⟩ := tr
    exact b.keep d v (nch d _ hw) (fun z => by rw [I.stkFree d z] at hw; cases hw) q
/-- an exception of an own class -/
def ExcO (C a : Addr) : Heap → Prop := fun h => ∃ o, h.get? a = some o ∧ o.cls = .ref C
end
end L2
set_option Elab.async false
set_option linter.all false
set_option maxRecDepth 100000
namespace L2
open PySem PySem.Spec PyProof.Rows
/-- raise C(e), C an own class under a builtin exception -/
def tRaise (t : TA) (R : Hp → Prop) : TS := fun _ σ H => t σ H fun vs H1 => vs.length ≤ sizeLine ∧ R H1
section
variable {P : Program} {w : World} {K : PySem.W.Frag} {mg : Str → Option Value} {base : Heap}
end
theorem PS.nox {X : Cx} {st : Stmt} {t : TS} (h : PS X.nox st t) : PS X st t := fun pins s σ H D I hw =>
  wpAny_mono (h pins s σ H D (I.wish _) hw) (fun _ _ q => q.unwish) fun _ _ z => False.elim z
/-- the same context, within an except suite -/
abbrev Cx.inExc (X : Cx) (e : Value) (E : Value → Shared → Prop) : Cx := { X with A := X.A.mark (some e), calm := false, xe := E }
theorem Inv.inExc {X : Cx} {pins : List (Addr × Obj)} {σ : St} {H : Hp} {s : Shared} (I : Inv X pins σ H s) (e : Value) (E : Value → Shared → Prop) : Inv (X.inExc e E) pins σ H s :=
  ⟨⟨I.ok.mod, I.ok.kind, I.ok.glob, I.ok.blt, I.ok.above, I.ok.inj, I.ok.has, I.ok.cab, (fun z => nomatch z), I.ok.frames, I.ok.stk, I.ok.exf, I.ok.bs, I.ok.bsz, I.ok.noex, I.ok.exfs, I.ok.funs, I.ok.frf⟩, I.os, I.bare, I.base, I.loc, I.cell, I.free, I.freeC, I.pin, I.hok, I.len⟩
end L2
set_option Elab.async false
set_option linter.all false
set_option maxRecDepth 100000
namespace L2
open PySem PySem.Spec PyProof.Rows
/-- what an exception's class must be to be caught by C2 -/
def Under (base : Heap) (C C2 : Addr) : Prop := ∃ bm N nm q bs hdct sn sub ab col dd k0 k1 k2 k3 k5 newId, base.get? C = some (excClassObj nm q C N bs bm hdct sn sub ab col dd k0 k1 k2 k3 k5 newId) ∧ (Value.ref C :: bm).contains (Value.ref C2) = true
/-- try: f(..) except C2 as n: v = n -/
def tTryC (base : Heap) (sp : Sp) (t : TA) (C2 : Addr) (iv ie : Nat) : TS := fun D σ H => t σ H fun vs H1 => sp vs H1 (fun _ H' => D.nx σ H') (fun cls _ H' => ∃ C, cls = .ref C ∧ Under base C C2 ∧ ∀ a, H' a = none → D.nx (((σ.set ie (some (.ref a))).set iv (some (.ref a))).set ie none) (upd H' a (.ext (ExcO C a))))
end L2
set_option Elab.async false
set_option linter.all false
set_option maxRecDepth 100000
set_option maxHeartbeats 4000000
namespace L2
open PySem PySem.Spec PyProof.Rows
def tTryM (base : Heap) (CI : Addr) (m : Str) (sp : Sp) (ta : TE) (t : TA) (C2 : Addr) (iv ie : Nat) : TS := fun D σ H => ta σ H fun x H0 => ∃ a dx fs, x = .ref a ∧ H0 a = some (.ins CI dx fs) ∧ fs.lookup m = none ∧ t σ H0 fun vs H1 => sp (x :: vs) H1 (fun _ H' => D.nx σ H') (fun cls _ H' => ∃ C, cls = .ref C ∧ Under base C C2 ∧ ∀ a, H' a = none → D.nx (((σ.set ie (some (.ref a))).set iv (some (.ref a))).set ie none) (upd H' a (.ext (ExcO C a))))
end L2
set_option Elab.async false
set_option linter.all false
set_option maxRecDepth 100000
set_option maxHeartbeats 4000000
namespace L2
open PySem PySem.Spec PyProof.Rows
abbrev TSx := Ends → (Addr → Hp → Prop) → St → Hp → Prop
/-- an exception of the class at C flies here -/
def Fly (X : Cx) (pins : List (Addr × Obj)) (σ : St) (R : Addr → Hp → Prop) (e : Value) (s' : Shared) : Prop := ∃ (a T C : Addr) (H' : Hp), e = .ref a ∧ Inv X pins σ H' s' ∧ FlyAt s'.heap a T (.ref C) Value.none ∧ Loose X pins H' a ∧ Loose X pins H' T ∧ R C H'
def PSx (X : Cx) (st : Stmt) (t : TSx) : Prop := ∀ (pins : List (Addr × Obj)) (s : Shared) (σ : St) (H : Hp) (D : Ends) (R : Addr → Hp → Prop), Inv X pins σ H s → t D R σ H → wpAny (model X.prog X.w) X.A (exec st X.env) (SP X pins D) (Fly X pins σ R) s
def PSxs (X : Cx) (st : List Stmt) (t : TSx) : Prop := ∀ (pins : List (Addr × Obj)) (s : Shared) (σ : St) (H : Hp) (D : Ends) (R : Addr → Hp → Prop), Inv X pins σ H s → t D R σ H → wpAny (model X.prog X.w) X.A (execs st X.env) (SP X pins D) (Fly X pins σ R) s
def txCall (sp : Sp) (t : TA) : TSx := fun D R σ H => t σ H fun vs H1 => sp vs H1 (fun _ H' => D.nx σ H') (fun cls _ H' => ∃ C, cls = .ref C ∧ R C H')
def txNext (t : TSx) : TSx := t
def txIf (c : TT) (t u : TSx) : TSx := fun D R σ H => c σ H fun b H1 => if b = true then t D R σ H1 else u D R σ H1
/-- try: .. except C2 as n: v = n -/
def tTry (base : Heap) (t : TSx) (C2 : Addr) (iv ie : Nat) : TS := fun D σ H => t D (fun C H' => Under base C C2 ∧ ∀ a, H' a = none → D.nx (((σ.set ie (some (.ref a))).set iv (some (.ref a))).set ie none) (upd H' a (.ext (ExcO C a)))) σ H
end L2
set_option Elab.async false
set_option linter.all false
set_option maxRecDepth 100000
namespace L2
open PySem PySem.Spec PyProof.Rows
open Sem (wp)
section
variable {prog : Program} {w : World} {A : Around} {E : Value → Shared → Prop} {h : Heap} {g : Array GenState} {d : Drawn} {t : Nat} {os : OsState} {a C : Addr} {o : Obj}
/-- what an own exception class has of its base's lookups -/
structure LkO (M : Model) (h : Heap) (C : Addr) : Prop where
  ga : W.Looks M h (typeLookup (.ref C) "__getattribute__") (some (.builtin "BaseException.__getattribute__"))
  gt : W.Looks M h (typeLookup (.ref C) "__getattr__") none
  cl : W.Looks M h (typeLookup (.ref C) "__class__") (some (.builtin "object.__class__"))
  sb : W.Looks M h (isSubtype (.ref C) (.type "object")) true
end
end L2
set_option Elab.async false
set_option linter.all false
set_option maxRecDepth 100000
namespace L2
open PySem PySem.Spec PyProof.Rows
abbrev bmVE : List Value := [.type "ValueError", .type "Exception", .type "BaseException", .type "object"]
/-- the facts of an own exception class C under an own one L under ValueError -/
structure ExcK (K : W.Frag) (C : Addr) : Prop where
  obj : ∃ nm q N bs L hdct sn sub ab col dd k0 k1 k2 k3 k5 newId cL ddL cd slL, K.lookup C = some (excClassObj nm q C N bs (.ref L :: bmVE) hdct sn sub ab col dd k0 k1 k2 k3 k5 newId) ∧ K.lookup L = some ⟨cL, ddL, .cls cd, slL⟩ ∧ W.nsOkIn K cd.ns = true ∧ (∀ n ∈ quietNames, W.nsIn K cd.ns n = some none)
  ga : W.findIn K (.ref C) "__getattribute__" = some (some (.builtin "BaseException.__getattribute__"))
  gt : W.findIn K (.ref C) "__getattr__" = some none
  cl : W.findIn K (.ref C) "__class__" = some (some (.builtin "object.__class__"))
  sb : W.subIn K (.ref C) (.type "object") = some true
theorem ExcK.lk {K : W.Frag} {C : Addr} (x : ExcK K C) {M : Model} {h : Heap} (i : K.In h) : LkO M h C := ⟨W.looks_findIn i x.ga, W.looks_findIn i x.gt, W.looks_findIn i x.cl, W.looks_subIn i x.sb⟩
end L2
set_option Elab.async false
set_option linter.all false
set_option maxRecDepth 100000
set_option maxHeartbeats 4000000
namespace L2
open PySem PySem.Spec PyProof.Rows
theorem isi_excI {prog : Program} {w : World} {A : Around} {E : Value → Shared → Prop} {s : Shared} {Q : Value → Shared → Prop} {a : Addr} {o : Obj} (hx : s.heap.get? a = some o) (hc : o.cls = .type "ValueError") (h : ∀ tk, Q (.bool false) { s with toks := tk }) :
    wpAny (model prog w) A (call (.builtin "isinstance") [.ref a, .type "int"]) Q E s := by
  refine call_isinstance (S := fun _ R s => (∃ o, s.heap.get? a = some o ∧ o.cls = .type "ValueError") ∧ R (.ok (.ret (.bool false))) { s with toks := s.toks + 1 }) (fun _ _ _ _ s hs => ?_) ⟨⟨o, hx, hc⟩, h _⟩
  obtain ⟨h, g, d, t, os⟩ := s
  obtain ⟨⟨o, hx, hc⟩, hq⟩ := hs
  exact isinstance_outer (isinstance_nested_false_VE hx hc (by decide +kernel) F.isi_meta_int (by rw [isSubtype_type]; kernel_rfl) hq)
theorem cr_isiEI {X : Cx} : CallR X (.builtin "isinstance") (fun xs H Q => ∃ a, xs = [.ref a, .ty "int"] ∧ H a = some (.ext (ExcP "ValueError" a)) ∧ Q (.bl false) H) := by
  intro pins s σ H xs us Q I r h
  obtain ⟨a, rfl, ha, q⟩ := h
  obtain ⟨u, w', rfl, r1, r2⟩ := vals2 r
  cases r2
  cases r1
  obtain ⟨⟨o, e1, e2⟩, _⟩ := I.hok a _ ha
  exact isi_excI e1 e2 fun tk => ⟨.bl false, H, I.tok _, rfl, q⟩
abbrev VEat (H : Hp) (x : V) : Prop := ∃ a, x = .ref a ∧ H a = some (.ext (ExcP "ValueError" a))
def spPlcA (K : PySem.W.Frag) : Sp := fun vs H Q _ => ∃ (x : V) (m : Int), vs = [x, .int m] ∧ ((∃ n, x = .int n ∧ Q (.bl (decide (0 ≤ n ∧ n < m))) H) ∨ (∃ b, x = .bl b ∧ Q (.bl false) H) ∨ (IsI K H x "int" false ∧ Q (.bl false) H) ∨ (VEat H x ∧ Q (.bl false) H))
def BadI (K : PySem.W.Frag) (H : Hp) (m : Int) (x : V) : Prop := (∃ n : Int, x = .int n ∧ ¬ (0 ≤ n ∧ n < m)) ∨ (∃ b, x = .bl b) ∨ (∀ H', Same H H' → IsI K H' x "int" false) ∨ VEat H x
theorem BadI.same {K : PySem.W.Frag} {H H' : Hp} {m : Int} {x : V} (b : BadI K H m x) (s : Same H H') : BadI K H' m x := by
  rcases b with h | h | h | ⟨a, h1, h2⟩
  · exact .inl h
  · exact .inr (.inl h)
  · exact .inr (.inr (.inl fun H2 s2 => h H2 (s.trans s2)))
  · exact .inr (.inr (.inr ⟨a, h1, s _ _ h2⟩))
def NotL (K : PySem.W.Frag) (H : Hp) (z : Str) (x : V) : Prop := (∃ y : Str, x = .str y ∧ y.length ≤ 4000 ∧ (rowB y && (fsts z.cps.toList 0 y.cps.toList).isSome) = false) ∨ (∀ H', Same H H' → IsI K H' x "str" false) ∨ VEat H x
theorem NotL.same {K : PySem.W.Frag} {H H' : Hp} {z : Str} {x : V} (b : NotL K H z x) (s : Same H H') : NotL K H' z x := by
  rcases b with h | h | ⟨a, h1, h2⟩
  · exact .inl h
  · exact .inr (.inl fun H2 s2 => h H2 (s.trans s2))
  · exact .inr (.inr ⟨a, h1, s _ _ h2⟩)
/-- left_at refuses -/
def spLeftB (K : PySem.W.Frag) (C : Addr) : Sp := fun vs H _ E => ∃ (z : Str) (x : V), vs = [.str z, x] ∧ z.length ≤ 200 ∧ BadI K H (mn z.cps.toList) x ∧ ∀ H', Same H H' → E (.ref C) none H'
/-- place_of, place_in_length refuse -/
def spPlaceB (K : PySem.W.Frag) (P C : Addr) : Sp := fun vs H _ E => ∃ (z : Str) (x : V), vs = [.str z, x] ∧ z.length ≤ 200 ∧ H P = some (.ext (TabP P)) ∧ NotL K H z x ∧ ∀ H', Same H H' → E (.ref C) none H'
/-- what is known of the classes of refusals, one by one -/
structure RefsJ (K : PySem.W.Frag) (mg : Str → Option Value) (C1 C2 C3 C4 C5 C6 : Addr) : Prop where
  m1 : mg "NoPlace" = some (.ref C1)
  m2 : mg "NoRow" = some (.ref C2)
  m3 : mg "NoLetters" = some (.ref C3)
  m4 : mg "NoLetter" = some (.ref C4)
  m5 : mg "NoText" = some (.ref C5)
  m6 : mg "NoCommand" = some (.ref C6)
  mV : mg "ValueError" = none
/-- of which of six classes an exception is -/
structure OfSix (K : PySem.W.Frag) (C C1 C2 C3 C4 C5 C6 : Addr) (b1 b2 b3 b4 b5 b6 : Bool) : Prop where
  xk : ExcK K C
  o1 : PySem.W.kitOne K (.ref C) (.ref C1) = some b1
  o2 : PySem.W.kitOne K (.ref C) (.ref C2) = some b2
  o3 : PySem.W.kitOne K (.ref C) (.ref C3) = some b3
  o4 : PySem.W.kitOne K (.ref C) (.ref C4) = some b4
  o5 : PySem.W.kitOne K (.ref C) (.ref C5) = some b5
  o6 : PySem.W.kitOne K (.ref C) (.ref C6) = some b6
  val : PySem.W.kitOne K (.ref C) (.type "ValueError") = some true
def spJust (C1 C2 : Addr) : Sp := fun vs H Q _ => ∃ (a : Addr) (n : Int), vs = [.ref a, .int n] ∧ ((n = 0 ∧ H a = some (.ext (ExcO C1 a))) ∨ (n = 1 ∧ H a = some (.ext (ExcO C2 a)))) ∧ ∀ H', Same H H' → Q (.bl true) H'
end L2
set_option Elab.async false
set_option linter.all false
set_option maxRecDepth 100000
set_option maxHeartbeats 4000000
namespace L2
open PySem PySem.Spec PyProof.Rows
abbrev kviOf (ps : List (Int × Int)) : List (Key × V) := ps.map fun p => (Sum.inl p.1, V.int p.2)
abbrev daiOf (ps : List (Int × Int)) : List (PyData × PyData) := ps.map fun p => (PyData.int p.1, PyData.int p.2)
mutual
inductive Tg (n : Bool) (p : Addr) (H : Hp) : V → PyData → Prop
  | non : Tg n p H .non .none
  | bl (b : Bool) : Tg n p H (.bl b) (.bool b)
  | int (i : Int) : Tg n p H (.int i) (.int i)
  | str (x : Str) : Tg n p H (.str x) (.str x)
  | lst {a : Addr} {xs : List V} {ds : List PyData} : H a = some (.lst xs) → a ≠ p → (n = true → a ≠ sysModules) → TgAll n p H xs ds → Tg n p H (.ref a) (.list ds)
  | tup {a : Addr} {xs : List V} {ds : List PyData} : H a = some (.tup xs) → a ≠ p → TgAll n p H xs ds → Tg n p H (.ref a) (.tuple ds)
  | dct {a : Addr} {ps : List (Int × Int)} : H a = some (.dK (kviOf ps)) → a ≠ p → Tg n p H (.ref a) (.dict (daiOf ps))
inductive TgAll (n : Bool) (p : Addr) (H : Hp) : List V → List PyData → Prop
  | nil : TgAll n p H [] []
  | cons {v : V} {vs : List V} {d : PyData} {ds : List PyData} : Tg n p H v d → TgAll n p H vs ds → TgAll n p H (v :: vs) (d :: ds)
end
mutual
theorem Tg.kp {n : Bool} {p : Addr} {H H' : Hp} (k : Kp p H H') : ∀ (d : PyData) (v : V), Tg n p H v d → Tg n p H' v d
  | .none, _, h => by cases h; exact .non
  | .bool b, _, h => by cases h; exact .bl b
  | .int i, _, h => by cases h; exact .int i
  | .str x, _, h => by cases h; exact .str x
  | .list ds, _, h => by
    cases h with
    | lst e n1 n2 ha => exact .lst (k _ _ e n1) n1 n2 (TgAll.kp k ds _ ha)
  | .tuple ds, _, h => by
    cases h with
    | tup e n1 ha => exact .tup (k _ _ e n1) n1 (TgAll.kp k ds _ ha)
  | .dict ps, _, h => by
    cases h with
    | dct e n1 => exact .dct (k _ _ e n1) n1
theorem TgAll.kp {n : Bool} {p : Addr} {H H' : Hp} (k : Kp p H H') : ∀ (ds : List PyData) (vs : List V), TgAll n p H vs ds → TgAll n p H' vs ds
  | [], _, h => by cases h; exact .nil
  | d :: ds, _, h => by
    cases h with
    | cons h1 h2 => exact .cons (Tg.kp k d _ h1) (TgAll.kp k ds _ h2)
end
theorem Tg.same {n : Bool} {p : Addr} {H H' : Hp} {d : PyData} {v : V} (t : Tg n p H v d) (s : Same H H') : Tg n p H' v d := t.kp (s.kp p)
theorem TgAll.same {n : Bool} {p : Addr} {H H' : Hp} {ds : List PyData} {vs : List V} (t : TgAll n p H vs ds) (s : Same H H') : TgAll n p H' vs ds := t.kp (s.kp p)
theorem tgAll_ints {n : Bool} {p : Addr} {H : Hp} : ∀ ns : List Int, TgAll n p H (ns.map V.int) (ns.map PyData.int)
  | [] => .nil
  | i :: ns => .cons (.int i) (tgAll_ints ns)
theorem TgAll.append {n : Bool} {p : Addr} {H : Hp} : ∀ {vs : List V} {ds : List PyData} {vs' : List V} {ds' : List PyData}, TgAll n p H vs ds → TgAll n p H vs' ds' → TgAll n p H (vs ++ vs') (ds ++ ds')
  | _, _, _, _, .nil, h => h
  | _, _, _, _, .cons a t, h => .cons a (TgAll.append t h)
theorem reads_pairsI {P : Program} {w : World} (h : Heap) : ∀ (ps : List (Int × Int)) (es : List DictEntry) (vs : List (Key × Value)), KV (kviOf ps) vs → Pairs (mixKind P w) es vs →
    ReadsAll h (es.map (·.key)) ((daiOf ps).map (·.1)) [] ∧ ReadsAll h (es.map (·.val)) ((daiOf ps).map (·.2)) []
  | [], es, vs, k, p => by
    cases k
    cases p
    exact ⟨.nil, .nil⟩
  | (z, n) :: ps, es, vs, k, p => by
    cases k with
    | @cons a b as bs r t =>
      obtain ⟨b1, b2⟩ := b
      obtain ⟨r1, r2⟩ := r
      have r1' : Sum.inl z = b1 := r1
      subst r1'
      obtain ⟨tk, rfl⟩ := (show ∃ t, b2 = Value.int n t from r2)
      cases p with
      | @cons e kv es' kvs' hk hv hp =>
        obtain ⟨ih1, ih2⟩ := reads_pairsI (P := P) (w := w) h ps _ _ t hp
        rcases keyIs_shape (k := Sum.inl z) (v := e.key) hk with ⟨i, u, q, e2⟩ | ⟨y, u, q, e2⟩
        · cases q
          rw [List.map_cons, List.map_cons, e2, hv]
          exact ⟨.cons (as := []) (bs := []) (.int z u) ih1, .cons (as := []) (bs := []) (.int n tk) ih2⟩
        · cases q
section
variable {X : Cx} {pins : List (Addr × Obj)} {σ : St} {H : Hp} {s : Shared}
mutual
theorem Tg.reads {n : Bool} {p : Addr} (I : Inv X pins σ H s) : ∀ (d : PyData) (v : V) (u : Value), Tg n p H v d → RelV v u → ∃ as, Reads s.heap u d as ∧ (n = true → sysModules ∉ as)
  | .none, _, _, h, r => by
    cases h
    cases r
    exact ⟨_, Reads.none, fun _ z => nomatch z⟩
  | .bool b, _, _, h, r => by
    cases h
    cases r
    exact ⟨_, Reads.bool b, fun _ z => nomatch z⟩
  | .int i, _, _, h, r => by
    cases h
    obtain ⟨t, rfl⟩ := r
    exact ⟨_, Reads.int i t, fun _ z => nomatch z⟩
  | .str x, _, _, h, r => by
    cases h
    obtain ⟨t, rfl⟩ := r
    exact ⟨_, Reads.str x t, fun _ z => nomatch z⟩
  | .list ds, _, _, h, r => by
    cases h with
    | lst e n1 n2 ha =>
      cases r
      obtain ⟨_, its, k, rv, ho⟩ := I.hok _ _ e
      obtain ⟨as, hr, hn⟩ := Tg.readsAll I ds _ its ha rv
      refine ⟨_, Reads.list ho rfl rfl hr, fun hn1 z => ?_⟩
      rcases List.mem_cons.mp z with z | z
      · exact n2 hn1 z.symm
      · exact hn hn1 z
  | .tuple ds, _, _, h, r => by
    cases h with
    | tup e n1 ha =>
      cases r
      obtain ⟨_, its, rv, o, ho, hc, k, hd⟩ := I.hok _ _ e
      obtain ⟨as, hr, hn⟩ := Tg.readsAll I ds _ its ha rv
      exact ⟨_, Reads.tuple ho hc hd hr, hn⟩
  | .dict ps, _, _, h, r => by
    cases h with
    | @dct a ps e n1 =>
      cases r
      obtain ⟨_, hm, vs, kv, o, es, ep, ho, hex, hd, _, hp, _⟩ := I.hok a _ e
      obtain ⟨k1, k2⟩ := reads_pairsI (P := X.prog) (w := X.w) s.heap ps es.toList vs kv hp
      refine ⟨_, .dict ho hex.1 hd k1 k2, fun _ z => ?_⟩
      have e : sysModules = a := by simpa using z
      rw [← e] at hm
      simp at hm
theorem Tg.readsAll {n : Bool} {p : Addr} (I : Inv X pins σ H s) : ∀ (ds : List PyData) (vs : List V) (us : List Value), TgAll n p H vs ds → Vals vs us → ∃ as, ReadsAll s.heap us ds as ∧ (n = true → sysModules ∉ as)
  | [], _, _, h, r => by
    cases h
    cases r
    exact ⟨_, ReadsAll.nil, fun _ z => nomatch z⟩
  | d :: ds, _, _, h, r => by
    cases h with
    | cons h1 h2 =>
      cases r with
      | cons r1 r2 =>
        obtain ⟨as, q1, m1⟩ := Tg.reads I d _ _ h1 r1
        obtain ⟨bs, q2, m2⟩ := Tg.readsAll I ds _ _ h2 r2
        exact ⟨_, ReadsAll.cons q1 q2, fun hn z => (List.mem_append.mp z).elim (m1 hn) (m2 hn)⟩
end
end
section
variable {X : Cx}
/-- a thing that can be shown -/
structure Shw (n : Bool) (d : PyData) : Prop where
  sh : d.showable = true
  hd : d.hasDict = true → n = true
  dp : d.depth ≤ 8
  sz : d.shown.length ≤ sizeLine
def rReprT : List V → Hp → VK → Prop := fun xs H Q => ∃ n p x d, xs = [x] ∧ Tg n p H x d ∧ Shw n d ∧ Q (.str d.shown) H
theorem cr_reprT (hg : X.A.guards = some []) (hu : X.A.units + 66 < cLine) : CallR X (.builtin "repr") rReprT := by
  intro pins s σ H xs us Q I rs h
  obtain ⟨n, p, x, d, rfl, ht, ⟨hs, hn, hdp, hz⟩, q⟩ := h
  cases rs with
  | cons r rs =>
    cases rs
    obtain ⟨as, rd, nm⟩ := Tg.reads I d x _ ht r
    cases ht with
    | non =>
      cases r
      exact P.repr_of_none ⟨.str _, H, I.tok _, ⟨_, rfl⟩, q⟩
    | bl b =>
      cases r
      exact P.repr_of_bool ⟨.str _, H, I.tok _, ⟨_, rfl⟩, q⟩
    | int i =>
      obtain ⟨t, rfl⟩ := r
      exact P.repr_of_int (of_decide_eq_true hs) ⟨.str _, H, I.tok _, ⟨_, rfl⟩, q⟩
    | str z =>
      obtain ⟨t, rfl⟩ := r
      exact P.repr_of_str ⟨.str _, H, I.tok _, ⟨_, rfl⟩, q⟩ hz
    | lst h1 h2 h3 h4 =>
      cases r
      exact repr_of_reads' rd hs (fun z => nm (hn z)) hg (by omega) (fun _ _ e => e) (fun h' u tk hk => ⟨.str _, H, I.kept (t' := tk) hk, ⟨_, rfl⟩, q⟩) hz
    | tup h1 h2 h3 =>
      cases r
      exact repr_of_reads' rd hs (fun z => nm (hn z)) hg (by omega) (fun _ _ e => e) (fun h' u tk hk => ⟨.str _, H, I.kept (t' := tk) hk, ⟨_, rfl⟩, q⟩) hz
    | dct h1 h2 =>
      cases r
      exact repr_of_reads' rd hs (fun z => nm (hn z)) hg (by omega) (fun _ _ e => e) (fun h' u tk hk => ⟨.str _, H, I.kept (t' := tk) hk, ⟨_, rfl⟩, q⟩) hz
/-- str(list) -/
theorem cr_strL (hg : X.A.guards = some []) (hu : X.A.units + 66 < cLine) : CallR X (.type "str") (fun xs H Q => ∃ n p a d, xs = [.ref a] ∧ Tg n p H (.ref a) d ∧ Shw n d ∧ Q (.str d.shown) H) := by
  intro pins s σ H xs us Q I rs h
  obtain ⟨n, p, x, d, rfl, ht, ⟨hs, hn, hdp, hz⟩, q⟩ := h
  cases rs with
  | cons r rs =>
    cases rs
    cases r
    obtain ⟨as, rd, nm⟩ := Tg.reads I d _ _ ht rfl
    exact str_of_reads rd hs (fun z => nm (hn z)) hg (by omega) (fun _ _ e => e) (fun h' u tk hk => ⟨.str _, H, I.kept (t' := tk) hk, ⟨_, rfl⟩, q⟩) hz
/-- a list and a new one behind it, and where that one is not -/
def rCatN : R2 := fun x y H Q => ∃ l b xs zs, x = .ref l ∧ y = .ref b ∧ H l = some (.lst xs) ∧ H b = some (.lst zs) ∧ xs.length + zs.length ≤ sizeLine ∧ ∀ p, H p = none → p ≠ sysModules → Q (.ref p) (upd H p (.lst (xs ++ zs)))
theorem op_catN : OpR X (binaryOp .Add) rCatN := by
  intro pins s σ H x y v u Q I rx ry h
  obtain ⟨l, b, xs, zs, rfl, rfl, hH, hB, hz, q⟩ := h
  cases rx
  cases ry
  obtain ⟨z, its, n, r, hl, e⟩ := I.lstM hH
  obtain ⟨z2, its2, n2, r2, hl2, e2⟩ := I.lstM hB
  refine PySem.P.add_list e e2 ?_ (by rw [List.size_toArray, List.size_toArray]; omega)
  have ea : its.toArray ++ its2.toArray = (its ++ its2).toArray := by simp
  rw [ea]
  exact ⟨.ref _, _, I.lnew (t' := s.toks) (r.append r2) (by rw [List.length_append]; omega), rfl, q _ I.fresh (Nat.ne_of_gt I.big)⟩
def tLstN (t : TA) : TE := fun σ H Q => t σ H fun xs H1 => xs.length ≤ sizeLine ∧ ∀ p, H1 p = none → p ≠ sysModules → Q (.ref p) (upd H1 p (.lst xs))
theorem pe_lstN {es : List Expr} {t : TA} {pos : Pos} (h : PA X es t) : PE X (.List es pos) (tLstN t) := by
  intro pins s σ H Q I hq
  refine wpAny_List_spliced (thn (h pos pins s σ H _ I hq) fun us s1 ⟨xs, H1, I1, r, z, q⟩ => ⟨by rw [← r.length]; exact z, ?_⟩)
  have hf : H1 s1.heap.objs.size = none := I1.hok.fresh (Nat.le_refl _)
  refine ⟨.ref s1.heap.objs.size, upd H1 s1.heap.objs.size (.lst xs), I1.laid (t' := s1.toks) (fun b u e => Heap.get?_push_of_some _ e) (Nat.le_refl _) ?_, rfl, q _ hf (Nat.ne_of_gt I1.big)⟩
  exact ⟨z, us, 0, r, Heap.get?_push_size _ rfl⟩
/-- a number, or a truth, and a number -/
def rAddI : R2 := fun x y H Q => ∃ j, y = .int j ∧ ((∃ i, x = .int i ∧ Q (.int (i + j)) H) ∨ ∃ b, x = .bl b ∧ Q (.int (b2i b + j)) H)
theorem op_addI : OpR X (binaryOp .Add) rAddI := by
  intro pins s σ H x y v u Q I rx ry h
  obtain ⟨j, rfl, h⟩ := h
  rcases h with ⟨i, rfl, q⟩ | ⟨b, rfl, q⟩
  · exact op_add pins s σ H (.int i) (.int j) v u Q I rx ry ⟨i, j, rfl, rfl, q⟩
  · obtain ⟨t, rfl⟩ := ry
    cases rx
    exact IntBool.add_bool_int ⟨.int (b2i b + j), H, I.tok _, ⟨_, rfl⟩, q⟩
end
end L2
set_option Elab.async false
set_option linter.all false
set_option maxRecDepth 100000
set_option maxHeartbeats 4000000
namespace L2
open PySem PySem.Spec PyProof.Rows
section
variable {prog : Program} {w : World} {A : Around} {E : Value → Shared → Prop} {s : Shared} {Q : Value → Shared → Prop} {a : Addr} {o : Obj} {i : Int} {t : Tok}
theorem dict_eq_int (h : s.heap.get? a = some o) (hc : o.cls = .type "dict") (q : Q .notImplemented s) :
   wpAny (model prog w) A (call (.builtin "dict.__eq__") [.ref a, .int i t]) Q E s := by
  refine wpAny_call_entry F.slot_dict_eq (T := "dict") ⟨o, h, hc⟩ F.entry_dict_eq ?_ (F.args_dict_eq_2 _ _)
  unfold Builtin.«dict.__eq__»
  have hT : s.TypeIs (.ref a) "dict" := ⟨o, h, hc⟩
  with_unfolding_all refine wpAny_bind (m := Builtin.Dict.dictSlotArgs "__eq__" _) ?_
  unfold Builtin.Dict.dictSlotArgs
  repeat (any_goals (first | assumption | exact hT | wp_step))
  rw [PyProof.Rows.sub_int_dict]
  refine wpAny_pure ?_
  rw [if_pos (by rfl)]
  repeat (any_goals (first | assumption | exact hT | wp_step))
  all_goals exact ⟨_, rfl, q⟩
theorem int_eq_dict {es : Array DictEntry} {n : Nat} (h : s.heap.get? a = some o) (hc : o.cls = .type "dict") (hd : o.data = .dict es n) (q : Q .notImplemented s) :
   wpAny (model prog w) A (call (.builtin "int.__eq__") [.int i t, .ref a]) Q E s := by
  refine wpAny_call_entry (F.slot_int_eq) (T := "int") rfl F.entry_int_eq ?_ (F.args_int_eq_2 _ _)
  unfold Builtin.«int.__eq__»
  have hT : s.TypeIs (.ref a) "dict" := ⟨o, h, hc⟩
  repeat (any_goals (first | assumption | exact hT | wp_step))
  rw [hd]
  repeat (any_goals (first | assumption | exact hT | wp_step))
  all_goals exact ⟨_, rfl, q⟩
theorem eq_dict_int {es : Array DictEntry} {n : Nat} (hu : A.units < cLine) (h : s.heap.get? a = some o) (hc : o.cls = .type "dict") (hd : o.data = .dict es n) (q : Q (.bool false) s) :
   wpAny (model prog w) A (compareOp .Eq (.ref a) (.int i t)) Q E s :=
  SeqAt.rc_eq_decline_or (Ta := "dict") (Tb := "int") ⟨o, h, hc⟩ rfl (by decide +kernel) PyProof.Rows.sub_int_dict F.slot_dict_eq F.slot_int_eq_refl (fun Q' q' => dict_eq_int h hc q') (fun Q' q' => int_eq_dict h hc hd q') (k := false) (fun Q' q' => wpAny_pure q') (.inr hu) q
end
/-- odd ends: what may stand for one in a paper -/
inductive Od (m : Nat) (p : Addr) (H : Hp) : V → Prop
  | non : Od m p H .non
  | bl (b : Bool) : Od m p H (.bl b)
  | int (i : Int) (h : i.natAbs ≤ m) : Od m p H (.int i)
  | str (z : Str) (h : z = Str.ofString "1" ∨ z = Str.ofString "") : Od m p H (.str z)
  | lst {a : Addr} (e : H a = some (.lst [.int 1])) (n1 : a ≠ p) (n2 : a ≠ sysModules) : Od m p H (.ref a)
  | tup {a : Addr} (e : H a = some (.tup [.int 1])) (n1 : a ≠ p) : Od m p H (.ref a)
  | dct {a : Addr} (e : H a = some (.dK [])) (n1 : a ≠ p) : Od m p H (.ref a)
theorem Od.kp {m : Nat} {p : Addr} {H H' : Hp} {v : V} (o : Od m p H v) (k : Kp p H H') : Od m p H' v := by
  cases o with
  | non => exact .non
  | bl b => exact .bl b
  | int i h => exact .int i h
  | str z h => exact .str z h
  | lst e n1 n2 => exact .lst (k _ _ e n1) n1 n2
  | tup e n1 => exact .tup (k _ _ e n1) n1
  | dct e n1 => exact .dct (k _ _ e n1) n1
theorem Od.same {m : Nat} {p : Addr} {H H' : Hp} {v : V} (o : Od m p H v) (s : Same H H') : Od m p H' v := o.kp (s.kp p)
theorem Od.mono {m m' : Nat} {p : Addr} {H : Hp} {v : V} (o : Od m p H v) (h : m ≤ m') : Od m' p H v := by
  cases o with
  | non => exact .non
  | bl b => exact .bl b
  | int i q => exact .int i (Nat.le_trans q h)
  | str z h => exact .str z h
  | lst e n1 n2 => exact .lst e n1 n2
  | tup e n1 => exact .tup e n1
  | dct e n1 => exact .dct e n1
theorem big_shown {i : Int} {m : Nat} (h : i.natAbs ≤ m) (hm : m < 10 ^ 100) : (PyData.shown (.int i)).length ≤ 101 := by
  have h1 : i.natAbs < 10 ^ 100 := Nat.lt_of_le_of_lt h hm
  have e := int_text_length_le10 (k := 100) (by decide) h1
  show (Str.ofString (toString i)).length ≤ 101
  rw [PySem.ofString_length]; exact e
theorem big_log {i : Int} {m : Nat} (h : i.natAbs ≤ m) (hm : m < 10 ^ 100) : i.natAbs.log2 < 1920 := by
  by_cases e : i.natAbs = 0
  · rw [e]; decide
  · exact (Nat.log2_lt e).mpr (Nat.lt_of_le_of_lt h (Nat.lt_trans hm (by decide +kernel)))
/-- an odd end is shown in few signs -/
theorem Od.data {m : Nat} {p : Addr} {H : Hp} {v : V} (o : Od m p H v) (hm : m < 10 ^ 100) : ∃ d, Tg true p H v d ∧ d.showable = true ∧ d.depth ≤ 1 ∧ d.shown.length ≤ 150 := by
  cases o with
  | non => exact ⟨_, .non, rfl, by decide, by decide +kernel⟩
  | bl b => exact ⟨_, .bl b, rfl, by show 0 ≤ 1; decide, by cases b <;> decide +kernel⟩
  | int i h => exact ⟨_, .int i, decide_eq_true (big_log h hm), by show 0 ≤ 1; decide, Nat.le_trans (big_shown h hm) (by decide)⟩
  | str z h => rcases h with rfl | rfl <;> exact ⟨_, .str _, rfl, by decide +kernel, by decide +kernel⟩
  | lst e n1 n2 => exact ⟨.list [.int 1], .lst e n1 (fun _ => n2) (.cons (.int 1) .nil), by decide +kernel, by decide +kernel, by decide +kernel⟩
  | tup e n1 => exact ⟨.tuple [.int 1], .tup e n1 (.cons (.int 1) .nil), by decide +kernel, by decide +kernel, by decide +kernel⟩
  | dct e n1 => exact ⟨.dict [], .dct (ps := []) e n1, by decide +kernel, by decide +kernel, by decide +kernel⟩
/-- lists of odd ends -/
theorem ods_data {m : Nat} {p : Addr} {H : Hp} (hm : m < 10 ^ 100) : ∀ vs : List V, (∀ v ∈ vs, Od m p H v) → ∃ ds, TgAll true p H vs ds ∧ ds.length = vs.length ∧ PyData.showableAll ds = true ∧ PyData.depthAll ds ≤ 1 ∧ ((PyData.shownAll ds).map (·.length)).sum + 2 * (PyData.shownAll ds).length ≤ 152 * vs.length
  | [], _ => ⟨[], .nil, rfl, rfl, by decide, Nat.le_refl _⟩
  | v :: vs, h => by
    obtain ⟨d, h1, h2, h3, h4⟩ := (h v List.mem_cons_self).data hm
    obtain ⟨ds, i1, i2, i3, i4, i5⟩ := ods_data hm vs fun u hu => h u (List.mem_cons_of_mem _ hu)
    refine ⟨d :: ds, .cons h1 i1, by rw [List.length_cons, List.length_cons, i2], ?_, ?_, ?_⟩
    · show (d.showable && PyData.showableAll ds) = true
      rw [h2, i3]; rfl
    · show max d.depth (PyData.depthAll ds) ≤ 1
      omega
    · show (((PyData.shown d).length :: (PyData.shownAll ds).map (·.length)).sum) + 2 * ((PyData.shownAll ds).length + 1) ≤ 152 * (vs.length + 1)
      rw [List.sum_cons]
      omega
/-- a thing to be judged: it reads, and is shown -/
def Thg (p : Addr) (H : Hp) (v : V) : Prop := ∃ n d, Tg n p H v d ∧ Shw n d
theorem Thg.kp {p : Addr} {H H' : Hp} {v : V} (t : Thg p H v) (k : Kp p H H') : Thg p H' v := by
  obtain ⟨n, d, h, s⟩ := t
  exact ⟨n, d, h.kp k, s⟩
theorem thg_ods {m : Nat} {p a : Addr} {H : Hp} {vs : List V} (hm : m < 10 ^ 100) (e : H a = some (.lst vs)) (n1 : a ≠ p) (n2 : a ≠ sysModules) (h : ∀ v ∈ vs, Od m p H v) (hl : vs.length ≤ 4000) : Thg p H (.ref a) := by
  obtain ⟨ds, i1, i2, i3, i4, i5⟩ := ods_data hm vs h
  refine ⟨true, .list ds, .lst e n1 (fun _ => n2) i1, i3, fun _ => rfl, ?_, ?_⟩
  · show PyData.depthAll ds + 1 ≤ 8
    omega
  · have h1 := listText_len_le (PyData.shownAll ds)
    refine Nat.le_trans (m := 700000) ?_ (by decide)
    show (listText (PyData.shownAll ds)).length ≤ 700000
    omega
def rEq1 : R2 := fun x y H Q => ∃ m p, y = .int 1 ∧ Od m p H x ∧ ∀ b, Q (.bl b) H
section
variable {X : Cx}
theorem op_eq1 (hu : X.A.units + 64 < cLine) : OpR X (compareOp .Eq) rEq1 := by
  intro pins s σ H x y v u Q I rx ry h
  obtain ⟨m, p, rfl, o, q⟩ := h
  obtain ⟨t, rfl⟩ := ry
  have I' := I
  cases o with
  | non => cases rx; exact PySem.EqNone.eq_none_int (fin_bl I (q _) rfl)
  | bl b => cases rx; exact EqBoolInt.eq_bool_int (fin_bl I (q _) rfl)
  | int i h => obtain ⟨t', rfl⟩ := rx; exact eq_int (fin_bl I (q _) rfl)
  | str z h => obtain ⟨t', rfl⟩ := rx; exact PySem.EqMixed.eq_str_int (fin_bl I (q _) rfl)
  | @lst a e n1 n2 =>
    obtain ⟨as, r1, _⟩ := Tg.reads (n := false) (p := p) I (.list [.int 1]) _ v (.lst e n1 (fun z => nomatch z) (.cons (.int 1) .nil)) rx
    exact SeqAt.compareEq_shaped r1 (Reads.int 1 t) (by decide +kernel) (by decide +kernel) hu (fin_bl I (q _) rfl)
  | @tup a e n1 =>
    obtain ⟨as, r1, _⟩ := Tg.reads (n := false) (p := p) I (.tuple [.int 1]) _ v (.tup e n1 (.cons (.int 1) .nil)) rx
    exact SeqAt.compareEq_shaped r1 (Reads.int 1 t) (by decide +kernel) (by decide +kernel) hu (fin_bl I (q _) rfl)
  | @dct a e n1 =>
    cases rx
    obtain ⟨_, hm, vs, kv, ob, es, ep, ho, hex, hd, _, hp, _⟩ := I.hok a _ e
    exact eq_dict_int (by omega) ho hex.1 hd (fin_bl I (q _) rfl)
end
def NI (K : PySem.W.Frag) (H : Hp) (v : V) (T : String) : Prop := ∀ H', Same H H' → IsI K H' v T false
theorem NI.same {K : PySem.W.Frag} {H H' : Hp} {v : V} {T : String} (n : NI K H v T) (s : Same H H') : NI K H' v T := fun H2 s2 => n H2 (s.trans s2)
def ElV (K : PySem.W.Frag) (H : Hp) (v : V) : Prop := (∃ n, v = .int n) ∨ (∃ b, v = .bl b) ∨ NI K H v "int" ∨ VEat H v
theorem ElV.same {K : PySem.W.Frag} {H H' : Hp} {v : V} (e : ElV K H v) (s : Same H H') : ElV K H' v := by
  rcases e with h | h | h | ⟨a, h1, h2⟩
  · exact .inl h
  · exact .inr (.inl h)
  · exact .inr (.inr (.inl (h.same s)))
  · exact .inr (.inr (.inr ⟨a, h1, s _ _ h2⟩))
/-- what a thing that reads is: a list, or none; a number, a truth, or none -/
theorem Tg.isList {K : PySem.W.Frag} {n : Bool} {p : Addr} {H : Hp} {v : V} {d : PyData} (t : Tg n p H v d) : (∃ a xs ds, v = .ref a ∧ d = .list ds ∧ H a = some (.lst xs) ∧ TgAll n p H xs ds) ∨ NI K H v "list" := by
  cases t with
  | non => exact .inr fun _ _ => .n_list
  | bl b => exact .inr fun _ _ => .b_list b
  | int i => exact .inr fun _ _ => .i_list i
  | str z => exact .inr fun _ _ => .s_list z
  | lst e n1 n2 h => exact .inl ⟨_, _, _, rfl, rfl, e, h⟩
  | tup e n1 h => exact .inr fun _ s => .tr_list _ _ (SqT.of (s _ _ e))
  | dct e n1 => exact .inr fun _ s => .dr_list _ _ (.inl (s _ _ e))
theorem Tg.isInt {K : PySem.W.Frag} {n : Bool} {p : Addr} {H : Hp} {v : V} {d : PyData} (t : Tg n p H v d) : (∃ i, v = .int i) ∨ (∃ b, v = .bl b) ∨ NI K H v "int" := by
  cases t with
  | non => exact .inr (.inr fun _ _ => .n_int)
  | bl b => exact .inr (.inl ⟨b, rfl⟩)
  | int i => exact .inl ⟨i, rfl⟩
  | str z => exact .inr (.inr fun _ _ => .s_int z)
  | lst e n1 n2 h => exact .inr (.inr fun _ s => .lr_int _ _ (SqL.of (s _ _ e)))
  | tup e n1 h => exact .inr (.inr fun _ s => .tr_int _ _ (SqT.of (s _ _ e)))
  | dct e n1 => exact .inr (.inr fun _ s => .dr_int _ _ (.inl (s _ _ e)))
theorem TgAll.el {K : PySem.W.Frag} {n : Bool} {p : Addr} {H : Hp} : ∀ {vs : List V} {ds : List PyData}, TgAll n p H vs ds → ∀ v ∈ vs, (∃ i, v = .int i) ∨ (∃ b, v = .bl b) ∨ NI K H v "int"
  | _, _, .nil, v, h => nomatch h
  | _, _, .cons a t, v, h => by
    rcases List.mem_cons.mp h with rfl | h
    · exact a.isInt
    · exact TgAll.el t v h
theorem isi_excL {prog : Program} {w : World} {A : Around} {E : Value → Shared → Prop} {s : Shared} {Q : Value → Shared → Prop} {a : Addr} {o : Obj} (hx : s.heap.get? a = some o) (hc : o.cls = .type "ValueError") (h : ∀ tk, Q (.bool false) { s with toks := tk }) :
    wpAny (model prog w) A (call (.builtin "isinstance") [.ref a, .type "list"]) Q E s := by
  refine call_isinstance (S := fun _ R s => (∃ o, s.heap.get? a = some o ∧ o.cls = .type "ValueError") ∧ R (.ok (.ret (.bool false))) { s with toks := s.toks + 1 }) (fun _ _ _ _ s hs => ?_) ⟨⟨o, hx, hc⟩, h _⟩
  obtain ⟨h, g, d, t, os⟩ := s
  obtain ⟨⟨o, hx, hc⟩, hq⟩ := hs
  exact isinstance_outer (isinstance_nested_false_VE hx hc (by decide +kernel) F.isi_meta_list (by rw [isSubtype_type]; kernel_rfl) hq)
theorem cr_isiEL {X : Cx} : CallR X (.builtin "isinstance") (fun xs H Q => ∃ a, xs = [.ref a, .ty "list"] ∧ H a = some (.ext (ExcP "ValueError" a)) ∧ Q (.bl false) H) := by
  intro pins s σ H xs us Q I r h
  obtain ⟨a, rfl, ha, q⟩ := h
  obtain ⟨u, w', rfl, r1, r2⟩ := vals2 r
  cases r2
  cases r1
  obtain ⟨⟨o, e1, e2⟩, _⟩ := I.hok a _ ha
  exact isi_excL e1 e2 fun tk => ⟨.bl false, H, I.tok _, rfl, q⟩
def papV (row ls : List Nat) : Nat → List V → Bool
  | _, [] => true
  | s, .int e :: es => decide (0 ≤ e ∧ e < (row.length : Int) + 1) && (ls.all (fun c => decide (c ∈ (row.drop s).take (e.toNat - s))) && papV row ls e.toNat es)
  | _, _ :: _ => false
theorem papV_int (row ls : List Nat) (s : Nat) (e : Int) (es : List V) : papV row ls s (.int e :: es) = (decide (0 ≤ e ∧ e < (row.length : Int) + 1) && (ls.all (fun c => decide (c ∈ (row.drop s).take (e.toNat - s))) && papV row ls e.toNat es)) := rfl
theorem papV_oth (row ls : List Nat) (s : Nat) {v : V} (h : ∀ n, v ≠ .int n) (es : List V) : papV row ls s (v :: es) = false := by
  cases v <;> first | rfl | exact absurd rfl (h _)
theorem NI.noint {K : PySem.W.Frag} {H : Hp} {v : V} (h : NI K H v "int") : ∀ n, v ≠ .int n := fun n e => by
  have key : ∀ (x : V) (T : String) (b : Bool), IsI K H x T b → x = .int n → T = "int" → b = true := by
    intro x T b h e1 e2
    cases h <;> first | rfl | (exfalso; revert e2; decide) | cases e1
  have := key v "int" false (h H (Same.refl _)) e rfl
  cases this
def spShowsV (K : PySem.W.Frag) (P1 P2 P3 : Addr) : Sp := fun vs H Q _ => ∃ (z l : Str) (x : V), vs = [.str z, .str l, x] ∧ z.length ≤ 200 ∧ LetOk l ∧ H P1 = some (.ext (TabP P1)) ∧ H P2 = some (.ext (TabP P2)) ∧ H P3 = some (.ext (TabP P3)) ∧
  ((∃ a xs, x = .ref a ∧ H a = some (.lst xs) ∧ (∀ v ∈ xs, ElV K H v) ∧ Q (if papV z.cps.toList l.cps.toList 0 xs then .int xs.length else .non) H) ∨ ((NI K H x "list" ∨ VEat H x) ∧ Q .non H))
def spShownV (K : PySem.W.Frag) : Sp := fun vs H Q _ => ∃ (z l : Str) (x : V), vs = [.str z, .str l, x] ∧ z.length ≤ 200 ∧ LetOk l ∧
  ((∃ a xs, x = .ref a ∧ H a = some (.lst xs) ∧ (∀ v ∈ xs, (∃ i, v = .int i) ∨ (∃ b, v = .bl b) ∨ NI K H v "int") ∧ ∀ H', Same H H' → Q (if papV z.cps.toList l.cps.toList 0 xs then .int xs.length else .non) H') ∨ (NI K H x "list" ∧ Q .non H))
end L2
set_option Elab.async false
set_option linter.all false
set_option maxRecDepth 100000
set_option maxHeartbeats 4000000
namespace L2
open PySem PySem.Spec PyProof.Rows
theorem stored_new {κ : Type} [DecidableEq κ] (acc : List (κ × Value)) (k : κ) (v : Value) (h : ∀ q ∈ acc, q.1 ≠ k) : stored acc k v = acc ++ [(k, v)] := by
  unfold stored
  rw [if_neg]
  intro e
  obtain ⟨q, hq, e⟩ := List.any_eq_true.mp e
  exact h q hq (of_decide_eq_true e)
/-- the places told by numbers -/
def enI : Int → List Int → List (Int × Int)
  | _, [] => []
  | i, n :: ns => (i, n) :: enI (i + 1) ns
theorem enI_len : ∀ (ns : List Int) (i : Int), (enI i ns).length = ns.length
  | [], _ => rfl
  | n :: ns, i => by show (enI (i + 1) ns).length + 1 = ns.length + 1; rw [enI_len ns]
theorem kv_enum : ∀ (ns : List Int) (i : Int) (acc : List (Key × Value)), acc.length = ns.length → (∀ (j : Nat) (q : Key × Value), acc[j]? = some q → q.1 = Sum.inl (i + (j : Int)) ∧ ∃ n, ns[j]? = some n ∧ RelV (.int n) q.2) → KV (kviOf (enI i ns)) acc
  | [], _, acc, hl, _ => by
    rw [List.length_nil] at hl
    rw [List.length_eq_zero_iff.mp hl]
    exact .nil
  | n :: ns, i, acc, hl, h => by
    match acc, hl with
    | q :: acc, hl =>
      obtain ⟨h1, m, h2, h3⟩ := h 0 q rfl
      cases h2
      refine .cons ⟨?_, h3⟩ (kv_enum ns (i + 1) acc (by simpa using hl) fun j q hj => ?_)
      · rw [h1]; show Sum.inl i = Sum.inl (i + ((0 : Nat) : Int)); rw [Int.natCast_zero, Int.add_zero]
      · obtain ⟨e1, m, e2, e3⟩ := h (j + 1) q (by simpa using hj)
        exact ⟨by rw [e1]; congr 1; omega, m, by simpa using e2, e3⟩
theorem enum_keys : typeLookup (.type "enumerate") "keys" = pure none := am_miss_of_fast (by first | decide +kernel | rfl)
theorem enum_ga : typeLookup (.type "enumerate") "__getattr__" = pure none := am_miss_of_fast (by first | decide +kernel | rfl)
theorem am_entry_enum : entryFor table "enumerate.__getattribute__" = some Builtin.«object.__getattribute__» :=
  entryFor_alias (by kernel_rfl) (by first | rfl | decide +kernel) (by first | rfl | decide +kernel) (by kernel_rfl)
section
variable {prog : Program} {w : World} {A : Around} {E : Value → Shared → Prop}
theorem miss_enum {s : Shared} {a : Addr} {o : Obj} {fs : Array Value} {Q : Option Value → Shared → Prop} (hx : s.heap.get? a = some o) (hc : o.cls = .type "enumerate") (hdat : o.data = .fields fs) (hd : o.dict = none) (hA : A.handled = none)
    (h : ∀ h' tk, (∀ b ob, s.heap.get? b = some ob → h'.get? b = some ob) → Q none { s with heap := h', toks := tk }) : wpAny (model prog w) A (getAttr? (.ref a) "keys") Q E s := by
  obtain ⟨c, dct, dat, sl⟩ := o
  simp only at hc hdat hd
  subst hc hdat hd
  obtain ⟨hp, g, d, tk, os⟩ := s
  have hT : ∀ hp' tk', hp'.get? a = some ⟨.type "enumerate", none, .fields fs, sl⟩ → (⟨hp', g, d, tk', os⟩ : Shared).TypeIs (.ref a) "enumerate" := fun _ _ e => ⟨_, e, rfl⟩
  have hT1 : ∀ tk', (⟨hp, g, d, tk', os⟩ : Shared).TypeIs (.ref a) "enumerate" := fun _ => ⟨_, hx, rfl⟩
  have hmiss := enum_keys
  have hname : (["__module__", "__name__", "__qualname__", "__doc__", "__annotations__"] : List Str).contains "keys" = false := by decide +kernel
  have f1 := sub_AttributeError
  have f3 := PySem.F.slot_enumerate_getattribute.lookup
  have f4 := PySem.F.slot_enumerate_getattribute.bind (.ref a)
  have f5 := enum_ga
  unfold getAttr? getAttrBy? getAttrBy
  have body : ∀ (tk' : Nat) (u : Tok) (A' : Around) (Q' : PySem.Fin → Shared → Prop) (E' : Value → Shared → Prop), A'.handled = none → (∀ (h' : Heap) (tk2 : Nat) (e : Addr), hp.NewAttrErr h' e (.ref a) "keys" → E' (.ref e) ⟨h', g, d, tk2, os⟩) →
      wpAny (model prog w) A' (Builtin.«object.__getattribute__» ⟨[.ref a, .str "keys" u], []⟩) Q' E' ⟨hp, g, d, tk', os⟩ := by
    intro tk' u A' Q' E' hA' hE
    unfold Builtin.«object.__getattribute__»
    repeat (any_goals (first | assumption | exact hT1 _ | wp_step))
    all_goals exact wpAny_raiseAttrError hA' (fun h' tk e ne => hE h' tk e ne) (by decide +kernel)
  repeat (any_goals (first | assumption | exact hT1 _ | ((with_reducible show wpAny _ _ (call (Value.builtin "enumerate.__getattribute__") _) _ _ _); refine wpAny_call_entry PySem.F.slot_enumerate_getattribute (hT1 _) am_entry_enum (body _ _ _ _ _ hA fun h' tk' e hx' => ?_) (PySem.F.args_enumerate_getattribute_2 _ _)) | wp_step))
  obtain ⟨t', u', he⟩ := hx'.there
  repeat (any_goals (first | assumption | wp_step))
  all_goals first | exact h _ _ hx'.keeps | (dsimp only; repeat (any_goals (first | assumption | exact h _ _ hx'.keeps | wp_step)))
/-- the walk over the pairs -/
theorem upd_loopE {R : Result → Shared → Prop} {S e it l : Addr} {items : Array Value} {res : Value} (hh : A.handled = none) (hSe : S ≠ e) (hSi : S ≠ it) (hei : e ≠ it) (hle : l ≠ e) (hli : l ≠ it) (hlS : l ≠ S) (hsz0 : items.size ≤ sizeLine) :
    ∀ (k i : Nat) (acc : List (Key × Value)) (ix : Int) (t : Tok) (s : Shared), items.size = i + k → acc.length = i →
      (∀ (j : Nat) (q : Key × Value), acc[j]? = some q → q.1 = Sum.inl (j : Int) ∧ items[j]? = some q.2) →
      EnS s.heap e it i → s.heap.IsListIter it l i → s.heap.IsList l items → s.heap.DictOf (mixKind prog w) S acc →
      (∀ h' tk (acc' : List (Key × Value)), acc'.length = items.size → (∀ (j : Nat) (q : Key × Value), acc'[j]? = some q → q.1 = Sum.inl (j : Int) ∧ items[j]? = some q.2) → h'.DictOf (mixKind prog w) S acc' → (∀ b o, b ≠ S → b ≠ e → b ≠ it → s.heap.get? b = some o → h'.get? b = some o) → R (.ok (.ret res)) { s with heap := h', toks := tk }) →
      codeAny (model prog w) A (.builtin "dict.update.loop" ⟨[.ref S, .ref e, .int ix t, res], []⟩) R s
  | 0, i, acc, ix, t, s, hsz, hln, hacc, hen, hit, hl, hm, hR => by
    refine codeAny_builtin ud_entry ?_
    rw [Around.under_plainId ud_plain _]
    show wpAny _ A.in1 (pyNext (.ref e) >>= _) _ _ s
    refine wpAny_bind (en_pyEnd (A := A.in1) hh hen hit hl (Array.getElem?_eq_none (by omega)) fun h' he => ?_)
    show wpAny _ A.in1 (Builtin.Dict.addKeywords S [] >>= _) _ _ _
    refine wpAny_bind (wpAny_pure (wpAny_pure ?_))
    exact hR h' s.toks acc (by omega) hacc (hm.extBut he hSi) fun b o _ _ hb e => he b o hb e
  | k + 1, i, acc, ix, t, s, hsz, hln, hacc, hen, hit, hl, hm, hR => by
    have hlt : i < items.size := by omega
    obtain ⟨x, hx⟩ : ∃ p, items[i]? = some p := ⟨items[i], Array.getElem?_eq_getElem hlt⟩
    refine codeAny_builtin ud_entry ?_
    rw [Around.under_plainId ud_plain _]
    show wpAny _ A.in1 (pyNext (.ref e) >>= _) _ _ s
    refine wpAny_bind (en_pyNext (s := s) hen hit hl hx hei fun h1 hen1 hit1 ht1 hz1 hk1 => ?_)
    have hSlt : S < s.heap.objs.size := by obtain ⟨o, _, _, e, _⟩ := hm; exact Heap.lt_size e
    have hl1 : h1.IsList l items := hl.at fun o q => hk1 l o hle hli q
    have hm1 : h1.DictOf (mixKind prog w) S acc := hm.at fun o q => hk1 S o hSe hSi q
    show wpAny _ A.in1 (holding [Value.ref s.heap.objs.size] _ >>= _) _ _ _
    refine wpAny_bind (wpAny_holding ?_)
    refine wpAny_bind (wpAny_tryCatch ?_)
    unfold Builtin.Dict.pairItems
    refine wpAny_bind (wpAny_typeOf (T := "tuple") ⟨_, ht1, rfl⟩ ?_)
    rw [if_pos (by first | decide | rfl | simp)]
    refine wpAny_bind (wpAny_seqItems ht1 rfl (wpAny_pure ?_))
    show wpAny _ A.in1 (holding [Value.int (i : Int) s.toks, x] (dictSet S (Value.int (i : Int) s.toks) x)) _ _ _
    refine wpAny_holding (wpAny_dictSet_pairs (knd := mixKind prog w) (k := Sum.inl (i : Int)) (kV_is (k := Sum.inl (i : Int)) (P := prog) (w := w) ⟨s.toks, rfl⟩) hm1 (fun h2 hm2 hs2 => ?_) (by omega))
    have hst : stored acc (Sum.inl (i : Int)) x = acc ++ [(Sum.inl (i : Int), x)] := stored_new acc _ x fun q hq e => by
      obtain ⟨j, hj⟩ := List.mem_iff_getElem?.mp hq
      have h1 := (hacc j q hj).1
      have h2 := (List.getElem?_eq_some_iff.mp hj).1
      rw [h1] at e
      have : (j : Int) = (i : Int) := Sum.inl.inj e
      omega
    rw [hst] at hm2
    have hk2 : ∀ b o, b ≠ S → h1.get? b = some o → h2.get? b = some o := fun b o hb q => hs2.extBut b o hb q
    have hS2 : ∃ o, h2.get? S = some o := by obtain ⟨o, _, _, e, _⟩ := hm2; exact ⟨o, e⟩
    refine wpAny_pure ⟨plainId_quiet ud_plain _, upd_loopE (items := items) hh hSe hSi hei hle hli hlS hsz0 k (i + 1) _ (ix + 1) 0 _ (by omega) (by rw [List.length_append, hln]; rfl) (fun j q hj => ?_) ?_ ?_ ?_ hm2 fun h' tk acc' a1 a2 a3 kk => ?_⟩
    · rcases Nat.lt_trichotomy j acc.length with h1 | h1 | h1
      · rw [List.getElem?_append_left h1] at hj
        exact hacc j q hj
      · subst h1
        rw [List.getElem?_append_right (Nat.le_refl _), Nat.sub_self] at hj
        cases hj
        exact ⟨by rw [hln], by rw [hln]; exact hx⟩
      · rw [List.getElem?_eq_none (by rw [List.length_append, List.length_singleton]; omega)] at hj; cases hj
    · exact hen1.keep (S := S) hk2 (Ne.symm hSe) fun o q => hS2
    · exact hit1.at fun o q => hk2 it o (Ne.symm hSi) q
    · exact hl1.at fun o q => hk2 l o hlS q
    · exact hR h' tk acc' a1 a2 a3 fun b o h3 h4 h5 q => kk b o h3 h4 h5 (hk2 b o h3 (hk1 b o h4 h5 q))
theorem call_dict_enum {s : Shared} {e it l : Addr} {items : Array Value} {Q : Value → Shared → Prop} (hh : A.handled = none) (hen : IsEnum s.heap e it 0 Value.none) (hit : s.heap.IsListIter it l 0) (hl : s.heap.IsList l items) (hei : e ≠ it) (hle : l ≠ e) (hli : l ≠ it) (hn : items.size ≤ sizeLine)
    (h : ∀ h' tk (acc' : List (Key × Value)), acc'.length = items.size → (∀ (j : Nat) (q : Key × Value), acc'[j]? = some q → q.1 = Sum.inl (j : Int) ∧ items[j]? = some q.2) → h'.DictOf (mixKind prog w) s.heap.objs.size acc' → (∀ b o, b ≠ e → b ≠ it → s.heap.get? b = some o → h'.get? b = some o) → Q (.ref s.heap.objs.size) { s with heap := h', toks := tk }) :
    wpAny (model prog w) A (call (.type "dict") [.ref e]) Q E s := by
  have hen0 : EnS s.heap e it 0 := .inl ⟨_, hen⟩
  have he1 : e < s.heap.objs.size := Heap.lt_size (show s.heap.get? e = some _ from hen)
  have hi1 : it < s.heap.objs.size := by obtain ⟨o, ho, _⟩ := hit; exact Heap.lt_size ho
  have hl1 : l < s.heap.objs.size := by obtain ⟨o, ho, _⟩ := hl; exact Heap.lt_size ho
  refine callType_codes (Q₁ := fun obj s₁ => obj = .ref s.heap.objs.size ∧ s₁ = { s with heap := s.heap.push { cls := .type "dict", data := .dict #[] } }) PySem.F.kt_called_dict (PySem.F.kt_typeCall_dict_1 _) PySem.F.entry_dict_init (kt_code_dict_new _ ⟨rfl, rfl⟩) ?_
  rintro obj s₁ ⟨rfl, rfl⟩
  have hnew : (s.heap.push { cls := .type "dict", data := .dict #[] }).DictOf (mixKind prog w) s.heap.objs.size [] := Heap.DictOf.new s.heap
  have k0 : ∀ b o, s.heap.get? b = some o → (s.heap.push { cls := .type "dict", data := .dict #[] }).get? b = some o := fun b o e => Heap.get?_push_of_some _ e
  refine ⟨hnew.typeIs, PySem.F.args_dict_init_2 _ _, ?_⟩
  unfold Builtin.«dict.__init__»
  refine wpAny_bind ?_
  unfold Builtin.Dict.selfAndRest
  refine wpAny_bind (wpAny_notOrdered_dict hnew.typeIs ?_)
  show wpAny _ _ (pure (s.heap.objs.size, [Value.ref e])) _ _ _
  refine wpAny_pure ?_
  show wpAny _ _ (Builtin.Dict.updateFrom "dict.__init__" s.heap.objs.size (.ref e) [] .none) _ _ _
  unfold Builtin.Dict.updateFrom
  refine wpAny_bind (wpAny_typeOf (T := "enumerate") ⟨_, k0 _ _ hen, rfl⟩ ?_)
  rw [if_pos (by first | decide | rfl | simp)]
  refine wpAny_bind (miss_enum (k0 _ _ hen) rfl rfl rfl hh fun h1 tk1 hk1 => ?_)
  rw [if_pos (show (none : Option Value).isNone = true from rfl)]
  refine wpAny_bind (wpAny_rule ?_)
  have hk : ∀ b o, s.heap.get? b = some o → h1.get? b = some o := fun b o q => hk1 b o (k0 b o q)
  refine wpAny_bind (en_iter (it := it) (i := 0) (s := { s with heap := h1, toks := tk1 }) ⟨_, hk _ _ hen, rfl⟩ ?_)
  have key := upd_loopE (prog := prog) (w := w) (A := A.in1) (R := wants (fun r s₂ => r = .none ∧ Q (.ref s.heap.objs.size) s₂) E) (S := s.heap.objs.size) (e := e) (it := it) (l := l) (items := items) (res := Value.none) hh
    (Nat.ne_of_gt he1) (Nat.ne_of_gt hi1) hei hle hli (Nat.ne_of_lt hl1) hn items.size 0 [] 0 0 { s with heap := h1, toks := tk1 } (by omega) rfl (fun j q hj => by simp at hj)
    (.inl ⟨_, hk _ _ hen⟩) (hit.at fun o q => hk _ o q) (hl.at fun o q => hk _ o q) (hnew.at fun o q => hk1 _ o q)
    (fun h' tk acc' a1 a2 a3 k => ⟨rfl, h h' tk acc' a1 a2 a3 fun b o b1 b2 q => k b o (Nat.ne_of_lt (Heap.lt_size q)) b1 b2 (hk b o q)⟩)
  first
    | exact wpAny_pure ⟨plainId_quiet ud_plain _, key⟩
    | exact wpAny_bind (wpAny_pure (wpAny_pure ⟨plainId_quiet ud_plain _, key⟩))
end
def tDE (K : PySem.W.Frag) (ta : TA) : TE := fun σ H Q => ta σ H fun vs H1 => ∃ a ns, vs = [.ref a] ∧ H1 a = some (.lst (ns.map V.int)) ∧ ∀ p, H1 p = none → Q (.ref p) (upd H1 p (.dK (kviOf (enI 0 ns))))
theorem pe_dictEnum {X : Cx} {e : Expr} {ta : TA} {p p2 pos pos2 : Pos} (hc : X.calm = true) (hgl : Gl X "dict") (hml : X.mg "dict" = none) (hg : Gl X "enumerate") (hm : X.mg "enumerate" = none) (ha : PA X [e] ta)
    (hs : starEach [e] X.env = [(false, eval e X.env)] := by rfl) (hs2 : starEach [Expr.Call (.Name "enumerate" p2) [e] [] pos2] X.env = [(false, eval (Expr.Call (.Name "enumerate" p2) [e] [] pos2) X.env)] := by rfl) :
    PE X (.Call (.Name "dict" p) [.Call (.Name "enumerate" p2) [e] [] pos2] [] pos) (tDE X.K ta) := by
  intro pins s σ H Q I h
  refine wpAny_Call_Name_kw (ld_blt (u := .type "dict") I hgl hml (by decide +kernel) ?_)
  refine PyProof.Rows.callWith_type1 ?_ hs2 rfl
  rw [hs2]
  show wpAny _ _ (spliced ((false, eval _ X.env) :: backTo pos [])) _ _ s
  refine Calls.spliced_cons (Call_ (ld_blt I hg hm boot_enumerate (PyProof.Rows.callWith_type1 (thn (ha pos2 pins s σ H _ I h) fun us s1 ⟨vs, H1, I1, r1, q1⟩ => ?_) hs rfl)))
  obtain ⟨a, ns, ex, hq, q⟩ := q1
  subst ex
  cases r1 with
  | cons r rr =>
    cases rr
    cases r
    obtain ⟨its, rv, p', hz⟩ := I1.list (SqL.of hq)
    have hL := p'.isList
    have hlt : a < s1.heap.objs.size := by obtain ⟨o, ho, _⟩ := hL; exact Heap.lt_size ho
    refine call_enumerate_list hL fun h' he hit hsz hk => Calls.spliced_nil ?_
    have hl : its.toArray.size = ns.length := by rw [List.size_toArray, ← rv.length, List.length_map]
    rw [List.length_map] at hz
    refine call_dict_enum (s := { s1 with heap := h' }) (items := its.toArray) (I.ok.hd hc) he hit (hL.at fun o q => hk a o q) (Nat.succ_ne_self _) (Nat.ne_of_lt (Nat.lt_succ_of_lt hlt)) (Nat.ne_of_lt hlt) (by rw [hl]; exact hz) fun h2 tk acc a1 a2 a3 hk2 => ?_
    have big : s1.heap.objs.size ≤ h'.objs.size := by rw [hsz]; exact Nat.le_add_right _ _
    have hk3 : ∀ b o, s1.heap.get? b = some o → h2.get? b = some o := fun b o q =>
      hk2 b o (Nat.ne_of_lt (Nat.lt_succ_of_lt (Heap.lt_size q))) (Nat.ne_of_lt (Heap.lt_size q)) (hk b o q)
    have hkv : KV (kviOf (enI 0 ns)) acc := kv_enum ns 0 acc (by rw [a1, hl]) fun j q hj => by
      obtain ⟨e1, e2⟩ := a2 j q hj
      refine ⟨by rw [e1]; congr 1; omega, ?_⟩
      rw [List.getElem?_toArray] at e2
      have hjl : j < (ns.map V.int).length := by rw [rv.length]; exact (List.getElem?_eq_some_iff.mp e2).1
      have hjl' : j < ns.length := by rw [List.length_map] at hjl; exact hjl
      obtain ⟨u, hu, ru⟩ := rv.get (i := j) (x := .int ns[j]) (by rw [List.getElem?_map, List.getElem?_eq_getElem hjl']; rfl)
      rw [e2] at hu
      cases hu
      exact ⟨_, List.getElem?_eq_getElem hjl', ru⟩
    refine ⟨.ref h'.objs.size, upd H1 h'.objs.size (.dK (kviOf (enI 0 ns))), I1.laid (t' := tk) hk3 big (show ObjOk X.prog X.w _ _ _ (.dK _) from ⟨by rw [List.length_map, enI_len]; exact hz, beq_eq_false_iff_ne.mpr (Nat.ne_of_gt (Nat.lt_of_lt_of_le I1.big big)), acc, hkv, a3⟩), rfl, q _ (I1.hok.fresh big)⟩
end L2
set_option Elab.async false
set_option linter.all false
set_option maxRecDepth 100000
namespace L2
open PySem
theorem ahs_le {xs : List Nat} {y : Nat} {ys : List Nat} {a : Nat} : ∀ (d e : Nat), d ≤ e → ahs xs y ys a d ≤ ahs xs y ys a e
  | d, 0, h => by
    have : d = 0 := by omega
    subst this; exact Nat.le_refl _
  | d, e + 1, h => by
    by_cases c : d = e + 1
    · subst c; exact Nat.le_refl _
    · refine Nat.le_trans (ahs_le d e (by omega)) ?_
      show _ ≤ ahs xs y ys a e + _
      omega
def low (n : Nat) (ks : List Nat) : Nat := ks.getLast?.getD n
theorem Way.order {xs : List Nat} : ∀ {ys : List Nat} {a : Nat} {w w' : List Nat} {n n' : Nat}, Way xs ys a w n → Way xs ys a w' n' → n < n' → ∃ j p q : Nat, w[j]? = some p ∧ w'[j]? = some q ∧ p < q ∧ w.take j = w'.take j
  | [], a, w, w', n, n', h, h', hn => by
    cases h
    cases h'
    omega
  | y :: ys, a, w, w', n, n', h, h', hn => by
    cases h with
    | @cons _ _ _ s w k h1 h2 h3 h4 t =>
      cases h' with
      | @cons _ _ _ s' w' k' g1 g2 g3 g4 t' =>
        by_cases c : s = s'
        · subst c
          obtain ⟨j, p, q, e1, e2, e3, e4⟩ := t.order t' (by omega)
          exact ⟨j + 1, p, q, by simpa using e1, by simpa using e2, e3, by rw [List.take_succ_cons, List.take_succ_cons, e4]⟩
        · by_cases c2 : s < s'
          · exact ⟨0, s, s', rfl, rfl, c2, rfl⟩
          · have l1 := ahs_le (xs := xs) (y := y) (ys := ys) (a := a) (s' - a + 1) (s - a) (by omega)
            have l2 : ahs xs y ys a (s' - a + 1) = ahs xs y ys a (s' - a) + if xs[a + (s' - a)]? = some y then wys (xs.drop (a + (s' - a) + 1)) ys else 0 := rfl
            have e : a + (s' - a) = s' := by omega
            rw [e, if_pos g3] at l2
            omega
def sumN (f : Nat → Nat) : Nat → Nat
  | 0 => 0
  | i + 1 => sumN f i + f i
def vf (xs zs ys : List Nat) (k : Nat) : Nat := wys xs (ys.take k) * wys zs (ys.drop k)
end L2
set_option Elab.async false
set_option linter.all false
set_option maxRecDepth 100000
namespace L2
open PySem
theorem wys_skip (xs : List Nat) (c : Nat) : ∀ (d a : Nat), (∀ k, a ≤ k → k < a + d → xs[k]? ≠ some c) → wys (xs.drop a) [c] = wys (xs.drop (a + d)) [c]
  | 0, a, _ => by rw [Nat.add_zero]
  | d + 1, a, h => by
    have ih := wys_skip xs c d (a + 1) (fun k h1 h2 => h k (by omega) (by omega))
    have e : a + 1 + d = a + (d + 1) := by omega
    rw [e] at ih
    rw [← ih]
    by_cases hl : a < xs.length
    · obtain ⟨x, hx⟩ : ∃ x, xs[a]? = some x := ⟨_, List.getElem?_eq_getElem hl⟩
      rw [wys_at hx, if_neg (fun z => h a (Nat.le_refl _) (by omega) (by rw [hx, z])), Nat.add_zero]
    · rw [List.drop_eq_nil_of_le (by omega), List.drop_eq_nil_of_le (by omega)]
theorem chain_count (x : Str) (c : Nat) : ∀ (cuts : List Nat) (a f : Nat), StrLaws.ChainG x ⟨#[c]⟩ x.length a cuts f → (∀ k, f ≤ k → ¬ StrLaws.At x ⟨#[c]⟩ x.length k) → cuts.length = wys (x.cps.toList.drop a) [c]
  | [], a, f, h, hn => by
    have e : f = a := h
    subst e
    have hx := len_cps x
    rw [wys_skip x.cps.toList c (x.cps.toList.length - f) f (fun k h1 _ e => hn k h1 ((StrLaws.subAt_one x c k).mpr e)), List.drop_eq_nil_of_le (by omega)]
    rfl
  | d :: r, a, f, h, hn => by
    obtain ⟨h1, h2, h3, h4⟩ := h
    have ih := chain_count x c r (d + 1) f h4 hn
    have hd := (StrLaws.subAt_one x c d).mp h2
    have e := wys_skip x.cps.toList c (d - a) a (fun k k1 k2 e => h3 k k1 (by omega) ((StrLaws.subAt_one x c k).mpr e))
    have e1 : a + (d - a) = d := by omega
    rw [e1] at e
    rw [e, wys_at hd, if_pos rfl, wys_nil, List.length_cons, ih]
theorem count_wys (x : Str) (c : Nat) : Txt.count x (sg c) = ((wys x.cps.toList [c] : Nat) : Int) := by
  obtain ⟨f, h, hn⟩ := StrLaws.occ_tight x ⟨#[c]⟩ (by show 1 ≤ 1; decide)
  have := chain_count x c _ 0 f h hn
  rw [List.drop_zero] at this
  show ((Builtin.Str.occurrences x ⟨#[c]⟩ 0 x.length (x.length + 1)).length : Int) = _
  rw [this]
end L2
set_option Elab.async false
set_option linter.all false
set_option maxRecDepth 100000
namespace L2
open PySem PySem.Spec PyProof.Rows
abbrev TIU := St → Hp → (List (V × V) → Hp → Prop) → Prop
def PIU (X : Cx) (iter : Expr) (ti : TIU) : Prop :=
  ∀ (pins : List (Addr × Obj)) (s : Shared) (σ : St) (H : Hp) (R : List (V × V) → Hp → Prop), Inv X pins σ H s → ti σ H R →
    wpAny (model X.prog X.w) X.A (eval iter X.env) (fun xv s1 => wpAny (model X.prog X.w) X.A (pyIter xv) (fun it s2 => ∃ (I : Addr) (fp : List Addr) (Pt : Nat → Array Value → Prop) (St₀ : Nat → Heap → Prop) (Mid : Nat → Addr → Heap → Prop) (kvs : List (V × V)) (H1 : Hp),
      it = .ref I ∧ Inv X pins σ H1 s2 ∧ FpOk X pins H1 I ∧ (∀ b ∈ fp, b < s2.heap.objs.size) ∧ (∀ b ∈ fp, ∀ P, H1 b = some (.ext (TabP P)) → False) ∧ (∀ A' : Around, A'.handled = none → WalksU X.prog X.w A' I fp [I] kvs.length Pt St₀ Mid) ∧ St₀ 0 s2.heap ∧
        (∀ i vals, Pt i vals → ∃ x y u v, kvs[i]? = some (x, y) ∧ RelV x u ∧ RelV y v ∧ vals = #[u, v]) ∧ R kvs H1) X.xe s1) X.xe s
abbrev lv2 (xa : Str) (x : V) (xb : Str) (y : V) : LV := fun z => if z = xa then some x else if z = xb then some y else none
def tSumG (P : Addr) (ti : TIU) (xa xb : Str) (tt te : TG2) : TE := fun σ H Q => ti σ H fun kvs H1 => H1 P = some (.ext (TabP P)) ∧ ∃ (pz : Nat → Bool) (val : Nat → Int),
  (∀ i x y, kvs[i]? = some (x, y) → (tt (lv2 xa x xb y) σ H1 fun r => r = .bl (pz i)) ∧ (pz i = true → te (lv2 xa x xb y) σ H1 fun r => r = .int (val i))) ∧ Q (.int (((List.range kvs.length).filter pz).map val).sum) H1
section
variable {X : Cx} {elt iter cond : Expr} {ti : TIU} {t tt : TG2} {xa xb : Str} {pa pb pt p gpos pos : Pos} {kt : Nat} {scope : Scope} {cl : List (Str × Addr)} {c P : Addr} {k : Nat}
end
section
variable {X : Cx} {e : Expr} {td : TE} {apos cpos : Pos}
def iGItems (td : TE) : TIU := fun σ H R => td σ H fun x H1 => ∃ d kvs, x = .ref d ∧ H1 d = some (.dK kvs) ∧ R (kvs.map fun kv => (kV kv.1, kv.2)) H1
end
end L2
set_option Elab.async false
set_option linter.all false
set_option maxRecDepth 100000
namespace L2
open PySem PySem.Spec PyProof.Rows
/-- ways to take so many -/
def ch : Nat → Nat → Nat
  | _, 0 => 1
  | 0, _ + 1 => 0
  | n + 1, k + 1 => ch n k + ch n (k + 1)
def lasti (c : Nat) (xs : List Nat) : Int := match bef c xs with | none => -1 | some r => (r.length : Int)
section
variable {X : Cx}
def rRfindS : V → List V → Hp → VK → Prop := fun x xs H Q => ∃ (z : Str) (c : Nat), x = .str z ∧ xs = [.str (sg c)] ∧ Q (.int (lasti c z.cps.toList)) H
end
def nextL (c : Nat) : Nat := if c = 122 then 97 else c + 1
def spCalled : Sp := fun vs H Q _ => ∃ z : Str, vs = [.str z] ∧ IsRow z ∧ z.length ≤ 200 ∧ ∀ (y : Str) (H' : Hp), y.cps.toList = z.cps.toList.map nextL → Same H H' → Q (.str y) H'
def spRight1 : Sp := fun vs H Q _ => ∃ z : Str, vs = [.str z] ∧ IsRow z ∧ z.length ≤ 80 ∧ ∀ H', Same H H' → Q (.bl true) H'
def spMoreR : Sp := fun vs H Q _ => ∃ (z : Str) (c : Nat), vs = [.str z, .str (sg c)] ∧ z.length ≤ 80 ∧ ∀ H', Same H H' → Q (.bl true) H'
def spApartR : Sp := fun vs H Q _ => ∃ z y : Str, vs = [.str z, .str y] ∧ IsRow z ∧ IsRow y ∧ z.length ≤ 80 ∧ y.length ≤ 80 ∧ ∀ H', Same H H' → Q (.bl true) H'
end L2
namespace L2
open PySem PySem.Spec PyProof.Rows
def lowL (c : Nat) : Nat := 97 + (c - 97) % 13
def highL (c : Nat) : Nat := 97 + (13 + (c - 97) % 13)
end L2
set_option Elab.async false
set_option linter.all false
set_option maxRecDepth 100000
namespace L2
open PySem PySem.Spec PyProof.Rows
section
variable {X : Cx} {o e f : Expr} {to te tf : TE}
def tM2 (r : V → List V → Hp → VK → Prop) (to te tf : TE) : TE := fun σ H Q => to σ H fun x H1 => (∃ a, x = .str a) ∧ te σ H1 fun y H2 => tf σ H2 fun z H3 => r x [y, z] H3 Q
open Builtin Builtin.Str in
def rIndexS3 : V → List V → Hp → VK → Prop := fun x xs H Q => ∃ (z : Str) (c k : Nat) (i : Int), x = .str z ∧ xs = [.str (sg c), .int i] ∧ 0 ≤ i ∧ nxt z.cps.toList i.toNat (sg c) = some k ∧ Q (.int (k : Nat)) H
end
def gF (f : List Nat → Int) (ys : List Nat) (d : Nat) : Int := oI f (aft d ys)
def ahF (f : List Nat → Int) (c : Nat) (ys : List Nat) : Int := sumTo (gF f ys) c
/-- the place of a row among all that are left -/
def pN : List Nat → List Nat → Int
  | _, [] => 0
  | xs, c :: cs => 1 + ahF mn c xs + match aft c xs with | some r => pN r cs | none => 0
def codeK : Key → Nat
  | .inr s => s.cps.toList.getD 0 0
  | .inl _ => 0
def spAhead (P : Addr) : Sp := fun vs H Q _ => ∃ (d m : Addr) (c p : Nat) (xs : List Nat) (f : List Nat → Int), vs = [.ref d, .ref m, .str (sg c)] ∧ H d = some (.dK (entK (xs.drop p) p)) ∧ H m = some (.lst (tabI (xs.length + 1) fun i => f (xs.drop i))) ∧ p ≤ xs.length ∧ H P = some (.ext (TabP P)) ∧ Q (.int (ahF f c (xs.drop p))) H
def spPlaceOf (K : PySem.W.Frag) (P1 P2 : Addr) : Sp := fun vs H Q _ => ∃ z y : Str, vs = [.str z, .str y] ∧ z.length ≤ 200 ∧ y.length ≤ 200 ∧ IsRow y ∧ (fsts z.cps.toList 0 y.cps.toList).isSome = true ∧ H P1 = some (.ext (TabP P1)) ∧ H P2 = some (.ext (TabP P2)) ∧ ∀ H', Same H H' → Q (.int (pN z.cps.toList y.cps.toList)) H'
def spCountsL : Sp := fun vs H Q _ => ∃ z : Str, vs = [.str z] ∧ IsRow z ∧ z.length ≤ 200 ∧ ∀ (m : Addr) (H' : Hp), Same H H' → H m = none → H' m = some (.lst (tabI (z.cps.toList.length + 1) fun i => mn (z.cps.toList.drop i))) → Q (.ref m) H'
def spWide : Sp := fun vs H Q _ => ∃ (p : Addr) (m : Int), vs = [.ref p, .int m] ∧ HandAt H p ∧ 0 < m ∧ ∀ (v : Int) (H' : Hp), 0 ≤ v → v < m → HandAt H' p → Kp p H H' → Q (.int v) H'
def spLeftDue : Sp := fun vs H Q _ => ∃ (z : Str) (m : Addr) (i : Int), vs = [.str z, .ref m, .int i] ∧ IsRow z ∧ z.length ≤ 200 ∧ H m = some (.lst (tabI (z.cps.toList.length + 1) fun i => mn (z.cps.toList.drop i))) ∧ 0 ≤ i ∧ i < mn z.cps.toList ∧
  ∀ (y : Str) (H' : Hp), IsRow y → y.length ≤ z.length → (fsts z.cps.toList 0 y.cps.toList).isSome = true → pN z.cps.toList y.cps.toList = i → Same H H' → Q (.str y) H'
def spDueN : Sp := fun vs H Q _ => ∃ (z : Str) (m : Addr) (y : Str), vs = [.str z, .ref m, .str y] ∧ IsRow z ∧ z.length ≤ 200 ∧ H m = some (.lst (tabI (z.cps.toList.length + 1) fun i => mn (z.cps.toList.drop i))) ∧ (fsts z.cps.toList 0 y.cps.toList).isSome = true ∧ ∀ H', Same H H' → Q (.int (pN z.cps.toList y.cps.toList)) H'
end L2
set_option Elab.async false
set_option linter.all false
set_option maxRecDepth 100000
namespace L2
open PySem PySem.Spec PyProof.Rows
def spPartS : Sp := fun vs H Q _ => ∃ (p : Addr) (z : Str), vs = [.ref p, .str z] ∧ HandAt H p ∧ IsRow z ∧ z.length ≤ 200 ∧ ∀ (x : Str) (H' : Hp), IsRow x → x.cps.toList.Sublist z.cps.toList → HandAt H' p → Kp p H H' → Q (.str x) H'
def spWholeE : Sp := fun vs H Q _ => ∃ a b : Int, vs = [.int a, .int b] ∧ Q (.bl (decide (a = b))) H
end L2
namespace L2
end L2
namespace L2
end L2
namespace L2
open PySem
end L2
set_option Elab.async false
set_option linter.all false
set_option maxRecDepth 100000
namespace L2
open PySem PySem.Spec PyProof.Rows
/-- the place of a row among those of its length -/
def pL : List Nat → List Nat → Int
  | _, [] => 0
  | xs, c :: cs => ahF (dn · cs.length) c xs + match aft c xs with | some r => pL r cs | none => 0
structure LL (H0 H : Hp) (m : Addr) (rs : List Addr) (n : Nat) (g : Nat → Nat → Int) : Prop where
  sm : Same H0 H
  n0 : H0 m = none
  nr : ∀ r ∈ rs, H0 r = none
  lst : H m = some (.lst (rs.map V.ref))
  len : rs.length = n + 1
  nd : rs.Nodup
  nm : m ∉ rs
  at_ : ∀ (i : Nat) (r : Addr), rs[i]? = some r → H r = some (.lst (tabI (n + 1) (g i)))
theorem LL.same {H0 H H' : Hp} {m : Addr} {rs : List Addr} {n : Nat} {g : Nat → Nat → Int} (h : LL H0 H m rs n g) (s : Same H H') : LL H0 H' m rs n g :=
  ⟨h.sm.trans s, h.n0, h.nr, s _ _ h.lst, h.len, h.nd, h.nm, fun i r e => s _ _ (h.at_ i r e)⟩
theorem LL.set {H0 H : Hp} {m : Addr} {rs : List Addr} {n : Nat} {g : Nat → Nat → Int} (h : LL H0 H m rs n g) {i : Nat} {r : Addr} (hi : rs[i]? = some r) (f : Nat → Int) :
    LL H0 (upd H r (.lst (tabI (n + 1) f))) m rs n (fun j => if j = i then f else g j) := by
  have hr := List.mem_of_getElem? hi
  refine ⟨fun b o e => ?_, h.n0, h.nr, ?_, h.len, h.nd, h.nm, fun j r' e => ?_⟩
  · rw [upd_ne (ne_of_none e (h.nr r hr))]; exact h.sm b o e
  · rw [upd_ne (fun z => h.nm (by rw [z]; exact hr))]; exact h.lst
  · by_cases hj : j = i
    · subst hj
      rw [hi] at e; cases e
      rw [upd_same, if_pos rfl]
    · have hne : r' ≠ r := fun z => by
        subst z
        obtain ⟨h1, e1⟩ := List.getElem?_eq_some_iff.mp hi
        obtain ⟨h2, e2⟩ := List.getElem?_eq_some_iff.mp e
        exact hj ((List.getElem_inj h.nd).mp (e2.trans e1.symm))
      rw [upd_ne hne, if_neg hj]; exact h.at_ j r' e
theorem LL.congr {H0 H : Hp} {m : Addr} {rs : List Addr} {n : Nat} {g g' : Nat → Nat → Int} (h : LL H0 H m rs n g) (e : ∀ i, i ≤ n → ∀ L, L ≤ n → g i L = g' i L) : LL H0 H m rs n g' :=
  ⟨h.sm, h.n0, h.nr, h.lst, h.len, h.nd, h.nm, fun i r q => by
    have hi := (List.getElem?_eq_some_iff.mp q).1
    rw [h.len] at hi
    rw [h.at_ i r q, tabI_congr fun L hL => e i (by omega) L (by omega)]⟩
structure TabLL (H : Hp) (m : Addr) (xs : List Nat) : Prop where
  ex : ∃ rs : List Addr, H m = some (.lst (rs.map V.ref)) ∧ rs.length = xs.length + 1 ∧ ∀ (i : Nat) (r : Addr), rs[i]? = some r → H r = some (.lst (tabI (xs.length + 1) (dn (xs.drop i))))
theorem TabLL.same {H H' : Hp} {m : Addr} {xs : List Nat} (h : TabLL H m xs) (s : Same H H') : TabLL H' m xs := by
  obtain ⟨rs, a, b, c⟩ := h.ex
  exact ⟨rs, s _ _ a, b, fun i r e => s _ _ (c i r e)⟩
theorem TabLL.row {H : Hp} {m : Addr} {xs : List Nat} (h : TabLL H m xs) {K : PySem.W.Frag} {i : Nat} (hi : i ≤ xs.length) : ∃ (rs : List Addr) (r : Addr), SqL K H m (rs.map V.ref) ∧ atI (rs.map V.ref) ((i : Nat) : Int) = some (.ref r) ∧ H r = some (.lst (tabI (xs.length + 1) (dn (xs.drop i)))) := by
  obtain ⟨rs, a, b, c⟩ := h.ex
  have hr : rs[i]? = some (rs[i]'(by omega)) := List.getElem?_eq_getElem (by omega)
  exact ⟨rs, _, SqL.of a, atI_nat (by rw [List.getElem?_map, hr]; rfl), c i _ hr⟩
def spPlaceInL (K : PySem.W.Frag) (P1 P2 : Addr) : Sp := fun vs H Q _ => ∃ z y : Str, vs = [.str z, .str y] ∧ z.length ≤ 200 ∧ y.length ≤ 200 ∧ IsRow y ∧ (fsts z.cps.toList 0 y.cps.toList).isSome = true ∧ H P1 = some (.ext (TabP P1)) ∧ H P2 = some (.ext (TabP P2)) ∧ ∀ H', Same H H' → Q (.int (pL z.cps.toList y.cps.toList)) H'
def spLensT : Sp := fun vs H Q _ => ∃ z : Str, vs = [.str z] ∧ IsRow z ∧ z.length ≤ 200 ∧ ∀ (m : Addr) (H' : Hp), Same H H' → H m = none → TabLL H' m z.cps.toList → (∀ rs : List Addr, H' m = some (.lst (rs.map V.ref)) → ∀ r ∈ rs, H r = none) → Q (.ref m) H'
def spLenDue : Sp := fun vs H Q _ => ∃ (z : Str) (m : Addr) (n : Nat) (i : Int), vs = [.str z, .ref m, .int (n : Nat), .int i] ∧ IsRow z ∧ z.length ≤ 200 ∧ TabLL H m z.cps.toList ∧ n ≤ z.cps.toList.length ∧ 0 ≤ i ∧ i < dn z.cps.toList n ∧
  ∀ (y : Str) (H' : Hp), IsRow y → y.cps.toList.length = n → (fsts z.cps.toList 0 y.cps.toList).isSome = true → pL z.cps.toList y.cps.toList = i → Same H H' → Q (.str y) H'
def spDueL : Sp := fun vs H Q _ => ∃ (z : Str) (m : Addr) (y : Str), vs = [.str z, .ref m, .str y] ∧ IsRow z ∧ z.length ≤ 200 ∧ TabLL H m z.cps.toList ∧ (fsts z.cps.toList 0 y.cps.toList).isSome = true ∧ ∀ H', Same H H' → Q (.int (pL z.cps.toList y.cps.toList)) H'
/-- lengths being filled in -/
def fillF (ys ds : List Nat) : Nat → Int
  | 0 => 1
  | L + 1 => (ds.map (gF (dn · L) ys)).sum
def fillG (ys ds : List Nat) (d l : Nat) : Nat → Int
  | 0 => 1
  | L + 1 => (ds.map (gF (dn · L) ys)).sum + if L < l then gF (dn · L) ys d else 0
end L2
set_option Elab.async false
set_option linter.all false
set_option maxRecDepth 100000
namespace L2
open PySem PySem.W PyProof.Rows
/-- what a row of askings comes to: things asked are in bounds and unlike -/
def Rn (lt : Nat → Nat → Bool) (n : Nat) {α : Type} : KasT α → α → Prop
  | .ret a, b => b = a
  | .ask i j k, b => i < n ∧ j < n ∧ i ≠ j ∧ Rn lt n (k (lt i j)) b
theorem Rn.bind {lt : Nat → Nat → Bool} {n : Nat} {α β : Type} {f : α → KasT β} {b : β} : ∀ {t : KasT α} {a : α}, Rn lt n t a → Rn lt n (f a) b → Rn lt n (t.bind f) b
  | .ret a, _, h, h2 => by cases h; exact h2
  | .ask i j k, a, ⟨h1, h2, h3, h4⟩, h5 => ⟨h1, h2, h3, Rn.bind h4 h5⟩
theorem Rn.wp {lt : Nat → Nat → Bool} {n : Nat} {α : Type} {cmp : Nat → Nat → (Bool → Shared → Prop) → Shared → Prop} {P : Shared → Prop} (hc : ∀ i j (C : Bool → Shared → Prop) s, i < n → j < n → i ≠ j → P s → (∀ s', P s' → C (lt i j) s') → cmp i j C s) {G : α → Shared → Prop} : ∀ {t : KasT α} {a : α} (s : Shared), Rn lt n t a → P s → (∀ s', P s' → G a s') → t.kasWp cmp G s
  | .ret a, _, s, h, hp, hg => by cases h; exact hg s hp
  | .ask i j k, a, s, ⟨h1, h2, h3, h4⟩, hp, hg => hc i j _ s h1 h2 h3 hp fun s' hp' => Rn.wp hc s' h4 hp' hg
/-- a strict order -/
structure Ord (lt : Nat → Nat → Bool) (n : Nat) : Prop where
  tot : ∀ i j, i < n → j < n → i ≠ j → lt i j = true ∨ lt j i = true
  asy : ∀ i j, i < n → j < n → lt i j = true → lt j i = false
  tra : ∀ i j k, i < n → j < n → k < n → lt i j = true → lt j k = true → lt i k = true
/-- an order of the things -/
structure Pm (p : Array Nat) (n : Nat) : Prop where
  sz : p.size = n
  lt : ∀ i, i < n → p.getD i 0 < n
  inj : ∀ i j, i < n → j < n → p.getD i 0 = p.getD j 0 → i = j
theorem Pm.range (n : Nat) : Pm (List.toArray (List.range n)) n := by
  have e : ∀ i, i < n → (List.toArray (List.range n)).getD i 0 = i := fun i hi => by simp [Array.getD, hi]
  exact ⟨by simp, fun i hi => by rw [e i hi]; exact hi, fun i j hi hj h => by rw [e i hi, e j hj] at h; exact h⟩
theorem getD_of {p : Array Nat} {i : Nat} : p.getD i 0 = (p[i]?).getD 0 := by
  rw [Array.getD_eq_getD_getElem?]
theorem Pm.rev {p : Array Nat} {n m : Nat} (h : Pm p n) (hm : m ≤ n) : Pm (kas_rev p 0 m) n ∧ ∀ i, (kas_rev p 0 m).getD i 0 = if i < m then p.getD (m - 1 - i) 0 else p.getD i 0 := by
  have hb := fun i => getElem?_mirror_all (xs := p) (i := 0) (j := m) (by rw [h.sz]; exact hm) i
  have hg : ∀ i, (kas_rev p 0 m).getD i 0 = if i < m then p.getD (m - 1 - i) 0 else p.getD i 0 := fun i => by
    rw [getD_of]
    show ((mirror p 0 m ((m - 0) / 2))[i]?).getD 0 = _
    rw [hb i]
    by_cases c : i < m
    · rw [if_pos ⟨Nat.zero_le _, c⟩, if_pos c, ← getD_of]
      congr 1; omega
    · rw [if_neg (fun z => c z.2), if_neg c, ← getD_of]
  refine ⟨⟨by show (mirror p 0 m _).size = n; rw [mirror_size]; exact h.sz, fun i hi => ?_, fun i j hi hj e => ?_⟩, hg⟩
  · rw [hg]
    split
    · exact h.lt _ (by omega)
    · exact h.lt i hi
  · rw [hg, hg] at e
    by_cases a : i < m
    · rw [if_pos a] at e
      by_cases b : j < m
      · rw [if_pos b] at e
        have := h.inj _ _ (by omega) (by omega) e
        omega
      · rw [if_neg b] at e
        have := h.inj _ _ (by omega) hj e
        omega
    · rw [if_neg a] at e
      by_cases b : j < m
      · rw [if_pos b] at e
        have := h.inj _ _ hi (by omega) e
        omega
      · rw [if_neg b] at e
        exact h.inj i j hi hj e
/-- the first m rise -/
def Up (lt : Nat → Nat → Bool) (p : Array Nat) (m : Nat) : Prop := ∀ i j, i < j → j < m → lt (p.getD i 0) (p.getD j 0) = true
section
variable {lt : Nat → Nat → Bool} {n : Nat} (O : Ord lt n)
include O
theorem Ord.no {p : Array Nat} (h : Pm p n) {i j : Nat} (hi : i < n) (hj : j < n) (hne : i ≠ j) : lt (p.getD i 0) (p.getD j 0) = !lt (p.getD j 0) (p.getD i 0) := by
  have hd : p.getD i 0 ≠ p.getD j 0 := fun e => hne (h.inj i j hi hj e)
  rcases O.tot _ _ (h.lt i hi) (h.lt j hj) hd with a | a
  · rw [a, O.asy _ _ (h.lt i hi) (h.lt j hj) a]; rfl
  · rw [a, O.asy _ _ (h.lt j hj) (h.lt i hi) a]; rfl
theorem Up.step {p : Array Nat} (h : Pm p n) {m : Nat} (hm : m < n) (u : Up lt p m) (h1 : 0 < m) (hl : lt (p.getD (m - 1) 0) (p.getD m 0) = true) : Up lt p (m + 1) := fun i j hij hj => by
  by_cases e : j = m
  · subst e
    by_cases e2 : i = j - 1
    · rw [e2]; exact hl
    · exact O.tra _ _ _ (h.lt i (by omega)) (h.lt (j - 1) (by omega)) (h.lt j hm) (u i (j - 1) (by omega) (by omega)) hl
  · exact u i j hij (by omega)
end
end L2
set_option Elab.async false
set_option linter.all false
set_option maxRecDepth 100000
namespace L2
open PySem PySem.Spec PyProof.Rows PySem.W
/-- tuples at addresses, each with its sign -/
def Tups (h : Heap) (as : List Addr) (cs : List Nat) : Prop := as.length = cs.length ∧ ∀ (j : Nat) (a : Addr), as[j]? = some a → ∃ t x, h.get? a = some { cls := .type "tuple", data := .seq #[.str (sg (cs.getD j 0)) t, x] }
theorem Tups.mono {h h' : Heap} {as : List Addr} {cs : List Nat} (T : Tups h as cs) (k : ∀ a ∈ as, ∀ o, h.get? a = some o → h'.get? a = some o) : Tups h' as cs :=
  ⟨T.1, fun j a hj => by
    obtain ⟨t, x, e⟩ := T.2 j a hj
    exact ⟨t, x, k a (List.mem_of_getElem? hj) _ e⟩⟩
section
variable {prog : Program} {w : World} {A : Around} {E : Value → Shared → Prop} {s : Shared}
end
end L2
set_option Elab.async false
set_option linter.all false
set_option maxRecDepth 100000
namespace L2
open PySem PySem.Spec PyProof.Rows PySem.W
/-- the things at an order's places -/
def byP {α : Type} (p : Array Nat) (xs : List α) (d : α) : List α := p.toList.map fun i => xs.getD i d
section
variable {prog : Program} {w : World} {A : Around} {E : Value → Shared → Prop} {s : Shared}
end
def tSortI (td : TE) : TE := fun σ H Q => td σ H fun x H1 => ∃ (d : Addr) (kvs : List (Key × V)), x = .ref d ∧ H1 d = some (.dK kvs) ∧ (∀ kv ∈ kvs, ∃ c, kv.1 = Sum.inr (sg c)) ∧ (kvs.map fun kv => codeK kv.1).Nodup ∧ kvs.length < 64 ∧
  ∀ (l : Addr) (ts : List Addr) (kvs' : List (Key × V)) (H2 : Hp), H1 l = none → Same H1 H2 → kvs'.length = kvs.length → (∀ kv, kv ∈ kvs' ↔ kv ∈ kvs) → kvs'.Pairwise (fun a b => codeK a.1 < codeK b.1) → ts.length = kvs'.length → H2 l = some (.lst (ts.map V.ref)) →
    (∀ (j : Nat) (t : Addr), ts[j]? = some t → t ≠ l ∧ ∃ kv, kvs'[j]? = some kv ∧ H2 t = some (.tup [kV kv.1, kv.2])) → Q (.ref l) H2
end L2
set_option Elab.async false
set_option linter.all false
set_option maxRecDepth 100000
namespace L2
open PySem PySem.Spec PyProof.Rows
def pkI (f : Nat → Int) : List Nat → Int → Option (Nat × Int)
  | [], _ => none
  | s :: ss, k => if f (s + 1) ≤ k then pkI f ss (k - f (s + 1)) else some (s, k)
/-- the place of a letter from p on -/
def plc (xs : List Nat) (p d : Nat) : Nat := p + (idx d (xs.drop p)).getD 0
def spInOrder : Sp := fun vs H Q _ => ∃ (d : Addr) (xs : List Nat) (p : Nat), vs = [.ref d] ∧ H d = some (.dK (entK (xs.drop p) p)) ∧ (∀ c ∈ xs, 97 ≤ c ∧ c ≤ 122) ∧
  ∀ (l : Addr) (ds : List Nat) (H' : Hp), Same H H' → H l = none → ds.Pairwise (· < ·) → (∀ c, c ∈ ds ↔ c ∈ xs.drop p) → H' l = some (.lst ((ds.map (plc xs p)).map fun s => .int (s : Nat))) → Q (.ref l) H'
def spPickI : Sp := fun vs H Q _ => ∃ (a b : Addr) (k : Int) (N : Nat) (sp : List Nat) (f : Nat → Int) (r : Nat × Int), vs = [.ref a, .ref b, .int k] ∧ H a = some (.lst (sp.map fun s => .int (s : Nat))) ∧ H b = some (.lst (tabI N f)) ∧ (∀ s ∈ sp, s + 1 < N) ∧ sp.length ≤ 1000 ∧ pkI f sp k = some r ∧ ∀ (t : Addr) (H' : Hp), Same H H' → H t = none → H' t = some (.tup [.int (r.1 : Nat), .int r.2]) → Q (.ref t) H'
def spLeftAt : Sp := fun vs H Q _ => ∃ (z : Str) (i : Int), vs = [.str z, .int i] ∧ IsRow z ∧ z.length ≤ 200 ∧ 0 ≤ i ∧ i < mn z.cps.toList ∧
  ∀ (y : Str) (H' : Hp), IsRow y → y.length ≤ z.length → (fsts z.cps.toList 0 y.cps.toList).isSome = true → pN z.cps.toList y.cps.toList = i → Same H H' → Q (.str y) H'
end L2
namespace L2
open PySem PySem.Spec PyProof.Rows
def spPlcI : Sp := fun vs H Q _ => ∃ a b : Int, vs = [.int a, .int b] ∧ Q (.bl (decide (0 ≤ a ∧ a < b))) H
theorem same_over' {H H1 : Hp} (s : Same H H1) {q : Addr} {o : HO} (h : H q = none) : Same H (upd H1 q o) := fun b u e => by
  rw [upd_ne (ne_of_none e h)]; exact s b u e
end L2
set_option Elab.async false
set_option linter.all false
set_option maxRecDepth 100000
set_option maxHeartbeats 8000000
namespace L2
open PySem
def spDeepL : Sp := fun vs H Q _ => ∃ n : Int, vs = [.int n] ∧ 1 ≤ n ∧ n ≤ 5000 ∧ ∀ (t b : Addr) (ys : List V) (H' : Hp), Same H H' → H t = none → H b = none → H' t = some (.lst [.ref b]) → H' b = some (.lst ys) → Q (.ref t) H'
def spLoose39 : Sp := fun vs H Q _ => ∃ (p : Addr) (z l : Str), vs = [.ref p, .str z, .str l] ∧ DrawsAt H p ∧ z.length ≤ 80 ∧ LetOk l ∧ ∀ (m : Addr) (es : List Int) (H' : Hp), DrawsAt H' p → Kp p H H' → m ≠ p → H' m = some (.lst (es.map V.int)) → es.length ≤ 80 → (∀ e ∈ es, 0 ≤ e ∧ e ≤ 80) → Q (.ref m) H'
def spRightT (t1 t2 t3 : Addr) : Sp := fun vs H Q _ => ∃ (z l : Str) (x : V) (p : Addr), vs = [.str z, .str l, x] ∧ z.length ≤ 200 ∧ LetOk l ∧ Thg p H x ∧ H t1 = some (.ext (TabP t1)) ∧ H t2 = some (.ext (TabP t2)) ∧ H t3 = some (.ext (TabP t3)) ∧ ∀ H', Same H H' → Q (.bl true) H'
def spOdd : Sp := fun vs H Q _ => ∃ (p : Addr) (n : Int), vs = [.ref p, .int n] ∧ DrawsAt H p ∧ 0 ≤ n ∧ n ≤ 80 ∧ ∀ (v : V) (H' : Hp), DrawsAt H' p → Kp p H H' → Od (10 ^ 60) p H' v → Q v H'
def spSpoilt39 : Sp := fun vs H Q _ => ∃ (p a : Addr) (xs : List V) (n : Int) (m : Nat), vs = [.ref p, .ref a, .int n] ∧ DrawsAt H p ∧ H a = some (.lst xs) ∧ a ≠ p ∧ (∀ v ∈ xs, Od m p H v) ∧ xs.length ≤ 200 ∧ 0 ≤ n ∧ n ≤ 80 ∧ 10 ^ 60 ≤ m ∧ ∀ (c : Addr) (ys : List V) (H' : Hp), DrawsAt H' p → Kp p H H' → H' c = some (.lst ys) → c ≠ p → c ≠ sysModules → (∀ v ∈ ys, Od (m + 2) p H' v) → ys.length ≤ xs.length + 1 → H c = none → Q (.ref c) H'
theorem shB_bound {row ls : List Nat} : ∀ (es : List Int) (s : Nat), shB row ls s es = true → ∀ e ∈ es, 0 ≤ e ∧ e ≤ (row.length : Int)
  | [], _, _, e, h => nomatch h
  | x :: es, s, h, e, he => by
    rw [shB_cons, Bool.and_eq_true, Bool.and_eq_true] at h
    have h1 := of_decide_eq_true h.1
    rcases List.mem_cons.mp he with rfl | he
    · omega
    · exact shB_bound es _ h.2.2 e he
theorem eqv_strs_nil' (zs : List Str) : PyData.eqv (.list (strsD zs)) (.list (strsD [])) = decide (zs = []) := by
  cases zs with
  | nil => rfl
  | cons u O => rfl
theorem wys_zero (c : Nat) : ∀ xs : List Nat, (wys xs [c] = 0) ↔ c ∉ xs
  | [] => by simp [wys_none]
  | x :: xs => by
    rw [wys_cons, List.mem_cons]
    have ih := wys_zero c xs
    by_cases h : x = c
    · subst h
      rw [if_pos rfl, wys_nil]
      constructor
      · intro e; omega
      · intro e; exact absurd (.inl rfl) e
    · rw [if_neg h, Nat.add_zero, ih]
      exact ⟨fun a b => b.elim (fun e => h e.symm) a, fun a b => a (.inr b)⟩
end L2
namespace Lv
open PySem L2
section
variable {P : Program} {w : World} {K : PySem.W.Frag} {mg : Str → Option Value} {base : Heap} {f : Addr} {fd : FuncData}
theorem ok_plcA (T : Glb mg)  (F : Fun K "is_place" "is_place" sIsPlace f fd) : FnOk P w K mg base CX0 1 f fd ["thing", "many"] (spPlcA K) := by
  refine F.ok scIsPlace (fun vs H Q E h => ?_) (fun cdv A outer s H vs Q E hr h => ?_)
  · obtain ⟨x, m, rfl, _⟩ := h
    rfl
  obtain ⟨x, b, rfl, h⟩ := h
  have hu := hu_of hr
  refine' ⟨_, ?TT, ?RR⟩
  case TT =>
    refine' pss_one ?x1
    case x1 =>
     refine' ps_ret ?x2
     case x2 =>
      refine' pe_and ?x3 ?x4
      case x3 =>
       refine' pe_callB (cr_isi.or cr_isiEI) rfl T.m_isinstance (by decide +kernel) ?x5
       case x5 =>
        refine' pa_Name (pv 0) ?x6
        case x6 =>
         refine' pa_Name ?x7 ?x8
         case x7 =>
          exact (pe_bltn (v := .ty "int") rfl T.m_int (by decide +kernel) rfl)
         case x8 =>
          exact pa_nil
      case x4 =>
       refine' pe_and ?x9 ?x10
       case x9 =>
        refine' pe_not ?x11
        case x11 =>
         refine' pe_callB cr_isi rfl T.m_isinstance (by decide +kernel) ?x12
         case x12 =>
          refine' pa_Name (pv 0) ?x13
          case x13 =>
           refine' pa_Name ?x14 ?x15
           case x14 =>
            exact (pe_bltn (v := .ty "bool") rfl T.m_bool (by decide +kernel) rfl)
           case x15 =>
            exact pa_nil
       case x10 =>
        refine' pe_one ?x16
        case x16 =>
         refine' pe_chain op_le op_lt ?x17 (pv 0) (pv 1)
         case x17 =>
          exact pe_int
  case RR =>
    rcases h with ⟨a, rfl, q⟩ | ⟨c, rfl, q⟩ | ⟨hno, q⟩ | ⟨⟨a, rfl, ha⟩, q⟩
    · refine ⟨_, rfl, .inl ⟨_, _, _, rfl, .i_int _, true, rfl, ?_⟩⟩
      refine iteT ?_
      refine ⟨_, rfl, _, _, _, rfl, .i_bool _, false, rfl, true, rfl, ?_⟩
      refine iteT ?_
      refine ⟨_, rfl, _, _, rfl, rfl, _, rfl, ?_⟩
      refine ite2 (fun c => ?_) (fun c => ?_)
      · have c' : 0 ≤ a := of_decide_eq_true c
        refine ⟨_, rfl, _, _, rfl, rfl, ?_⟩
        have e : decide (a < b) = decide (0 ≤ a ∧ a < b) := by
          by_cases z : a < b
          · rw [decide_eq_true z, decide_eq_true ⟨c', z⟩]
          · rw [decide_eq_false z, decide_eq_false (fun x => z x.2)]
        show Q (V.bl (decide (a < b))) H
        rw [e]
        exact q
      · have c' : ¬ 0 ≤ a := fun z => c (decide_eq_true z)
        rw [decide_eq_false (fun x => c' x.1)] at q
        exact q
    · refine ⟨_, rfl, .inl ⟨_, _, _, rfl, .b_int _, true, rfl, ?_⟩⟩
      refine iteT ?_
      refine ⟨_, rfl, _, _, _, rfl, .b_bool _, true, rfl, false, rfl, ?_⟩
      refine iteF ?_
      exact q
    · refine ⟨_, rfl, .inl ⟨_, _, _, rfl, hno, false, rfl, ?_⟩⟩
      refine iteF ?_
      exact q
    · refine ⟨_, rfl, .inr ⟨a, rfl, ha, false, rfl, ?_⟩⟩
      refine iteF ?_
      exact q
theorem ok_showsV (T : Glb mg) {t1 t2 t3 : Addr} (c_is_letters : Callee P w K mg base 2 "is_letters" ["thing"] (spIsLetters K t1 t2)) (c_has_all : Callee P w K mg base 1 "has_all" ["found", "letters"] (spHasAll t3)) (c_is_place : Callee P w K mg base 1 "is_place" ["thing", "many"] (spPlcA K)) (F : Fun K "shows" "shows" sShows f fd) : FnOk P w K mg base CX0 3 f fd ["row", "letters", "thing"] (spShowsV K t1 t2 t3) := by
  refine F.ok scShows (fun vs H Q E h => ?_) (fun cdv A outer s H vs Q E hr h => ?_)
  · obtain ⟨z, l, x, rfl, _⟩ := h
    rfl
  obtain ⟨z, l, x, rfl, hz, hl, h1, h2, h3, h⟩ := h
  have hu := hu_of hr
  refine' ⟨_, ?TT, ?RR⟩
  case TT =>
    refine' pss_cons ?x18 ?x19
    case x18 =>
     refine' ps_if ?x20 ?x21 ?x22
     case x20 =>
      refine' pt_not ?x23
      case x23 =>
       refine' pt_val ?x24
       case x24 =>
        refine' pe_callC c_is_letters hr rfl ?x25
        case x25 =>
         refine' pa_Name (pv 1) ?x26
         case x26 =>
          exact pa_nil
     case x21 =>
      refine' pss_one ?x27
      case x27 =>
       exact ps_never
     case x22 =>
      exact pss_nil
    case x19 =>
     refine' pss_cons ?x28 ?x29
     case x28 =>
      refine' ps_if ?x30 ?x31 ?x32
      case x30 =>
       refine' pt_not ?x33
       case x33 =>
        refine' pt_val ?x34
        case x34 =>
         refine' pe_callB (cr_isi.or cr_isiEL) rfl T.m_isinstance (by decide +kernel) ?x35
         case x35 =>
          refine' pa_Name (pv 2) ?x36
          case x36 =>
           refine' pa_Name ?x37 ?x38
           case x37 =>
            exact (pe_bltn (v := .ty "list") rfl T.m_list (by decide +kernel) rfl)
           case x38 =>
            exact pa_nil
      case x31 =>
       refine' pss_one ?x39
       case x39 =>
        refine' ps_ret ?x40
        case x40 =>
         exact pe_non
      case x32 =>
       exact pss_nil
     case x29 =>
      refine' pss_cons ?x41 ?x42
      case x41 =>
       refine' ps_set (i := 3) scShows.nd rfl (Or.inl rfl) ?x43
       case x43 =>
        exact pe_int
      case x42 =>
       refine' pss_cons ?x44 ?x45
       case x44 =>
        refine' ps_for PassesOwn.never rfl ?x46 (pg_name (i := 4) scShows.nd rfl (Or.inl rfl)) ?x47
        case x46 =>
         exact (pi_list (pv 2))
        case x47 =>
         refine' pss_cons ?x48 ?x49
         case x48 =>
          refine' ps_if ?x50 ?x51 ?x52
          case x50 =>
           refine' PW.pt ?x53
           case x53 =>
            refine' pw_or ?x54 ?x55
            case x54 =>
             refine' pt_not ?x56
             case x56 =>
              refine' pt_val ?x57
              case x57 =>
               refine' pe_callC c_is_place hr rfl ?x58
               case x58 =>
                refine' pa_Name (pv 4) ?x59
                case x59 =>
                 refine' pa_BinOp ?x60 ?x61
                 case x60 =>
                  refine' pe_op op_add ?x62 ?x63
                  case x62 =>
                   refine' pe_callB call_len_str rfl T.m_len PySem.boot_len ?x64
                   case x64 =>
                    refine' pa_Name (pv 0) ?x65
                    case x65 =>
                     exact pa_nil
                  case x63 =>
                   exact pe_int
                 case x61 =>
                  exact pa_nil
            case x55 =>
             refine' pw_or1 ?x66
             case x66 =>
              refine' pt_not ?x67
              case x67 =>
               refine' pt_val ?x68
               case x68 =>
                refine' pe_callC c_has_all hr rfl ?x69
                case x69 =>
                 refine' pa_Subscript ?x70 ?x71
                 case x70 =>
                  exact (pe_slice sl_str (pv 0) (po_some (pv 3)) (po_some (pv 4)))
                 case x71 =>
                  refine' pa_Name (pv 1) ?x72
                  case x72 =>
                   exact pa_nil
          case x51 =>
           refine' pss_one ?x73
           case x73 =>
            refine' ps_ret ?x74
            case x74 =>
             exact pe_non
          case x52 =>
           exact pss_nil
         case x49 =>
          refine' pss_one ?x75
          case x75 =>
           exact (ps_set (i := 3) scShows.nd rfl (Or.inl rfl) (pv 4))
       case x45 =>
        refine' pss_one ?x76
        case x76 =>
         refine' ps_ret ?x77
         case x77 =>
          refine' pe_callB call_len_seq rfl T.m_len PySem.boot_len ?x78
          case x78 =>
           refine' pa_Name (pv 2) ?x79
           case x79 =>
            exact pa_nil
  case RR =>
  have ez : z.length = z.cps.toList.length := len_cps z
  have hl26 := hl.len
  refine ⟨_, rfl, _, rfl, .inl ⟨l, rfl, by omega, h1, h2, true, by rw [(let_iff l).mpr hl], ?_⟩⟩
  refine iteF ?_
  rcases h with ⟨t, xs, rfl, ht, hel, q⟩ | ⟨hno | ⟨av, rfl, hav⟩, q⟩
  rotate_left 1
  · refine ⟨_, rfl, .inl ⟨_, _, _, rfl, hno H (Same.refl _), false, rfl, ?_⟩⟩
    refine iteT ?_
    exact q
  · refine ⟨_, rfl, .inr ⟨_, rfl, hav, false, rfl, ?_⟩⟩
    refine iteT ?_
    exact q
  have hS : SqL K H t xs := SqL.of ht
  refine ⟨_, rfl, .inl ⟨_, _, _, rfl, .lr_list _ _ hS, true, rfl, ?_⟩⟩
  refine iteF ?_
  refine ⟨_, rfl, t, rfl, ⟨_, hS⟩, for_list (K := K) (a := t) (xs := xs) (fun i σ H1 => H1 = H ∧ ∃ (st : Nat) (v4 : Option V), st ≤ z.cps.toList.length ∧ σ = [some (.str z), some (.str l), some (.ref t), some (.int (st : Nat)), v4] ∧ papV z.cps.toList l.cps.toList 0 xs = papV z.cps.toList l.cps.toList st (xs.drop i)) ?_ ?_ ?_ ?_⟩
  · exact ⟨rfl, 0, none, Nat.zero_le _, rfl, rfl⟩
  · rintro i σ H1 hi ⟨rfl, _⟩
    exact hS
  · rintro i y σ H1 hi ⟨rfl, st, v4, hst, rfl, hsh⟩
    obtain ⟨hlt, hge⟩ := List.getElem?_eq_some_iff.mp hi
    rw [List.drop_eq_getElem_cons hlt, hge] at hsh
    have hy := List.mem_of_getElem? hi
    refine ⟨_, rfl, _, rfl, z, rfl, small80 (by omega), _, _, rfl, rfl, _, _, rfl, ?_⟩
    have bad : (∀ n, y ≠ .int n) → papV z.cps.toList l.cps.toList 0 xs = false := fun h => by rw [hsh, papV_oth _ _ _ h]
    rcases hel y hy with ⟨e, rfl⟩ | ⟨b, rfl⟩ | hno | hve
    · refine .inl ⟨e, rfl, ?_⟩
      rw [papV_int] at hsh
      refine ⟨_, rfl, ?_⟩
      by_cases hb : 0 ≤ e ∧ e < (z.length : Int) + 1
      · rw [decide_eq_true hb]
        refine iteF ?_
        have hb' : 0 ≤ e ∧ e < (z.cps.toList.length : Int) + 1 := by omega
        rw [decide_eq_true hb', Bool.true_and] at hsh
        have hcut : (cutS z (some (st : Int)) (some e)).cps.toList = (z.cps.toList.drop st).take (e.toNat - st) := by
          have := cut_mid2 z (a := (st : Int)) (b := e) (by omega) (by omega) (by omega) (by omega)
          rw [Int.toNat_natCast] at this
          exact this
        refine ⟨_, rfl, _, rfl, _, rfl, _, rfl, _, rfl, z, rfl, small80 (n := z.length) (by omega), _, rfl, _, l, rfl, h3, .inl ⟨_, rfl, _, rfl, ?_⟩⟩
        rw [hcut]
        refine ite2 (fun h => ?_) (fun h => ?_)
        · have h' : (l.cps.toList.all fun c => decide (c ∈ (z.cps.toList.drop st).take (e.toNat - st))) = false := by simpa using h
          rw [h', Bool.false_and] at hsh
          rw [hsh] at q
          exact q
        · have h' : (l.cps.toList.all fun c => decide (c ∈ (z.cps.toList.drop st).take (e.toNat - st))) = true := by simpa using h
          rw [h', Bool.true_and] at hsh
          refine ⟨_, rfl, rfl, e.toNat, some (.int e), by omega, ?_, hsh⟩
          have ee : e = ((e.toNat : Nat) : Int) := by omega
          exact congrArg (fun i => [some (V.str z), some (V.str l), some (V.ref t), some (V.int i), some (V.int e)]) ee
      · rw [decide_eq_false hb]
        refine iteT ?_
        refine iteT ?_
        have hb' : ¬ (0 ≤ e ∧ e < (z.cps.toList.length : Int) + 1) := by omega
        rw [decide_eq_false hb', Bool.false_and] at hsh
        rw [hsh] at q
        exact q
    · refine .inr (.inl ⟨b, rfl, ?_⟩)
      refine ⟨_, rfl, ?_⟩
      refine iteT ?_
      refine iteT ?_
      rw [bad (fun n e => nomatch e)] at q
      exact q
    · refine .inr (.inr (.inl ⟨hno H1 (Same.refl _), ?_⟩))
      refine ⟨_, rfl, ?_⟩
      refine iteT ?_
      refine iteT ?_
      rw [bad hno.noint] at q
      exact q
    · refine .inr (.inr (.inr ⟨hve, ?_⟩))
      refine ⟨_, rfl, ?_⟩
      refine iteT ?_
      refine iteT ?_
      obtain ⟨av, rfl, _⟩ := hve
      rw [bad (fun n e => nomatch e)] at q
      exact q
  · rintro σ H1 ⟨rfl, st, v4, _, rfl, hsh⟩
    rw [List.drop_length] at hsh
    refine ⟨_, rfl, t, _, rfl, .inl hS, ?_⟩
    rw [hsh] at q
    exact q
abbrev sLawShown : Stmt := top 19
def nLawShown : List Str := ["row", "letters", "thing", "begin", "end", "letter"]
theorem scLawShown : FnScope nLawShown ["row", "letters", "thing"] (defScope sLawShown) := ⟨rfl, rfl, rfl, by decide +kernel, rfl, by decide +kernel, by decide +kernel⟩
theorem ok_shownV (T : Glb mg)  (F : Fun K "_law_shown" "_law_shown" sLawShown f fd) : FnOk P w K mg base CX0 1 f fd ["row", "letters", "thing"] (spShownV K) := by
  refine F.ok scLawShown (fun vs H Q E h => ?_) (fun cdv A outer s H vs Q E hr h => ?_)
  · obtain ⟨z, l, x, rfl, _⟩ := h
    rfl
  obtain ⟨z, l, x, rfl, hz, hl, h⟩ := h
  have hu := hu_of hr
  refine' ⟨_, ?TT, ?RR⟩
  case TT =>
    refine' pss_cons ?x80 ?x81
    case x80 =>
     refine' ps_if ?x82 ?x83 ?x84
     case x82 =>
      refine' pt_not ?x85
      case x85 =>
       refine' pt_val ?x86
       case x86 =>
        refine' pe_callB cr_isi rfl T.m_isinstance (by decide +kernel) ?x87
        case x87 =>
         refine' pa_Name (pv 2) ?x88
         case x88 =>
          refine' pa_Name ?x89 ?x90
          case x89 =>
           exact (pe_bltn (v := .ty "list") rfl T.m_list (by decide +kernel) rfl)
          case x90 =>
           exact pa_nil
     case x83 =>
      refine' pss_one ?x91
      case x91 =>
       refine' ps_ret ?x92
       case x92 =>
        exact pe_non
     case x84 =>
      exact pss_nil
    case x81 =>
     refine' pss_cons ?x93 ?x94
     case x93 =>
      refine' ps_set (i := 3) scLawShown.nd rfl (Or.inr rfl) ?x95
      case x95 =>
       exact pe_int
     case x94 =>
      refine' pss_cons ?x96 ?x97
      case x96 =>
       refine' ps_for PassesOwn.never rfl ?x98 (pg_name (i := 4) scLawShown.nd rfl (Or.inr rfl)) ?x99
       case x98 =>
        exact (pi_list (pv 2))
       case x99 =>
        refine' pss_cons ?x100 ?x101
        case x100 =>
         refine' ps_if ?x102 ?x103 ?x104
         case x102 =>
          refine' PW.pt ?x105
          case x105 =>
           refine' pw_or ?x106 ?x107
           case x106 =>
            refine' pt_not ?x108
            case x108 =>
             refine' pt_val ?x109
             case x109 =>
              refine' pe_callB cr_isi rfl T.m_isinstance (by decide +kernel) ?x110
              case x110 =>
               refine' pa_Name (pv 4) ?x111
               case x111 =>
                refine' pa_Name ?x112 ?x113
                case x112 =>
                 exact (pe_bltn (v := .ty "int") rfl T.m_int (by decide +kernel) rfl)
                case x113 =>
                 exact pa_nil
           case x107 =>
            refine' pw_or ?x114 ?x115
            case x114 =>
             refine' pt_val ?x116
             case x116 =>
              refine' pe_callB cr_isi rfl T.m_isinstance (by decide +kernel) ?x117
              case x117 =>
               refine' pa_Name (pv 4) ?x118
               case x118 =>
                refine' pa_Name ?x119 ?x120
                case x119 =>
                 exact (pe_bltn (v := .ty "bool") rfl T.m_bool (by decide +kernel) rfl)
                case x120 =>
                 exact pa_nil
            case x115 =>
             refine' pw_or ?x121 ?x122
             case x121 =>
              exact (pt_cmpR op_lt (pv 4) (pv 3) (nomark _))
             case x122 =>
              refine' pw_or1 ?x123
              case x123 =>
               refine' pt_cmpR op_gt (pv 4) ?x124 (nomark _)
               case x124 =>
                refine' pe_callB call_len_str rfl T.m_len PySem.boot_len ?x125
                case x125 =>
                 refine' pa_Name (pv 0) ?x126
                 case x126 =>
                  exact pa_nil
         case x103 =>
          refine' pss_one ?x127
          case x127 =>
           refine' ps_ret ?x128
           case x128 =>
            exact pe_non
         case x104 =>
          exact pss_nil
        case x101 =>
         refine' pss_cons ?x129 ?x130
         case x129 =>
          refine' ps_if ?x131 ?x132 ?x133
          case x131 =>
           refine' pt_cmpR (op_neD hr.units) ?x134 ?x135 (nomark _)
           case x134 =>
            refine' pe_lc (own := [("letter", 5)]) (g := gName 5) (by rfl) scLawShown.nd ?x136 (blkOk_by (own := [("letter", 5)]) (N := nLawShown) (sc := defScope sLawShown) (by decide +kernel)) (fun _ _ _ _ _ => pg_name (i := 5) scLawShown.nd rfl (Or.inl rfl)) ?x137 (fun _ _ _ _ _ => (pv 5))
            case x136 =>
             exact (pi_str (pv 1))
            case x137 =>
             intro _ _ _ _ _
             exact pts_one (pt_cmpR op_eq (pe_m1 PySem.F.slot_str_count PySem.F.type_str_count mt_count (pe_slice sl_str (pv 0) (po_some (pv 3)) (po_some (pv 4))) (pv 5)) pe_int (nomark _))
           case x135 =>
            refine' pe_lst ?x138
            case x138 =>
             exact pa_nil
          case x132 =>
           refine' pss_one ?x139
           case x139 =>
            refine' ps_ret ?x140
            case x140 =>
             exact pe_non
          case x133 =>
           exact pss_nil
         case x130 =>
          refine' pss_one ?x141
          case x141 =>
           exact (ps_set (i := 3) scLawShown.nd rfl (Or.inr rfl) (pv 4))
      case x97 =>
       refine' pss_one ?x142
       case x142 =>
        refine' ps_ret ?x143
        case x143 =>
         refine' pe_callB call_len_seq rfl T.m_len PySem.boot_len ?x144
         case x144 =>
          refine' pa_Name (pv 2) ?x145
          case x145 =>
           exact pa_nil
  case RR =>
  have ez : z.length = z.cps.toList.length := len_cps z
  have hl26 := hl.len
  obtain ⟨rl, nel, pwl⟩ := id hl
  have el := len_cps l
  rcases h with ⟨t, xs, rfl, ht, hel, q⟩ | ⟨hno, q⟩
  rotate_left 1
  · refine ⟨_, rfl, _, _, _, rfl, hno H (Same.refl _), false, rfl, ?_⟩
    refine iteT ?_
    exact q
  refine ⟨_, rfl, _, _, _, rfl, .lr_list _ _ (SqL.of ht), true, rfl, ?_⟩
  refine iteF ?_
  refine ⟨_, rfl, t, rfl, ⟨_, SqL.of ht⟩, for_list (K := K) (a := t) (xs := xs) (fun i σ H1 => Same H H1 ∧ ∃ (st : Nat) (v4 : Option V), st ≤ z.cps.toList.length ∧ σ = [some (.str z), some (.str l), some (.ref t), some (.int (st : Nat)), v4, none] ∧ papV z.cps.toList l.cps.toList 0 xs = papV z.cps.toList l.cps.toList st (xs.drop i)) ?_ ?_ ?_ ?_⟩
  · exact ⟨Same.refl _, 0, none, Nat.zero_le _, rfl, rfl⟩
  · rintro i σ H1 hi ⟨s1, _⟩
    exact SqL.of (s1 _ _ ht)
  · rintro i y σ H1 hi ⟨s1, st, v4, hst, rfl, hsh⟩
    obtain ⟨hlt, hge⟩ := List.getElem?_eq_some_iff.mp hi
    rw [List.drop_eq_getElem_cons hlt, hge] at hsh
    have hy := List.mem_of_getElem? hi
    have bad : (∀ n, y ≠ .int n) → papV z.cps.toList l.cps.toList 0 xs = false := fun h => by rw [hsh, papV_oth _ _ _ h]
    rcases hel y hy with ⟨e, rfl⟩ | ⟨b, rfl⟩ | hno
    · rw [papV_int] at hsh
      refine ⟨_, rfl, _, _, _, rfl, .i_int _, true, rfl, ?_⟩
      refine iteF ?_
      refine ⟨_, rfl, _, _, _, rfl, .i_bool _, false, rfl, ?_⟩
      refine iteF ?_
      refine ⟨_, rfl, _, rfl, _, _, rfl, rfl, _, rfl, ?_⟩
      by_cases hb : e < (st : Int)
      · rw [decide_eq_true hb]
        refine iteT ?_
        refine iteT ?_
        have hall : (l.cps.toList.all fun c => decide (c ∈ (z.cps.toList.drop st).take (e.toNat - st))) = false := by
          obtain ⟨c, cs, hc⟩ := List.exists_cons_of_ne_nil nel
          rw [show e.toNat - st = 0 by omega, List.take_zero, hc]
          rfl
        rw [hall, Bool.false_and, Bool.and_false] at hsh
        rw [hsh] at q
        exact q H1 s1
      rw [decide_eq_false hb]
      refine iteF ?_
      refine ⟨_, rfl, _, rfl, z, rfl, small80 (n := z.length) (by omega), _, _, rfl, rfl, _, rfl, ?_⟩
      by_cases hg : (z.length : Int) < e
      · rw [decide_eq_true hg]
        refine iteT ?_
        rw [decide_eq_false (show ¬ (0 ≤ e ∧ e < (z.cps.toList.length : Int) + 1) by omega), Bool.false_and] at hsh
        rw [hsh] at q
        exact q H1 s1
      rw [decide_eq_false hg]
      refine iteF ?_
      rw [decide_eq_true (show 0 ≤ e ∧ e < (z.cps.toList.length : Int) + 1 by omega), Bool.true_and] at hsh
      have hcut : (cutS z (some (st : Int)) (some e)).cps.toList = (z.cps.toList.drop st).take (e.toNat - st) := by
        have := cut_mid2 z (a := (st : Int)) (b := e) (by omega) (by omega) (by omega) (by omega)
        rw [Int.toNat_natCast] at this
        exact this
      refine ⟨_, rfl, l, rfl, fun D nD => ?_⟩
      refine lc_str (z := l) (fun j H5 => Same H1 H5 ∧ H5 D = some (.lst ((((l.cps.toList.take j).filter fun c => !decide (c ∈ (z.cps.toList.drop st).take (e.toNat - st))).map sg).map V.str))) ?_ ?_ ?_
      · exact ⟨same_new nD _, by rw [upd_same, List.take_zero]; rfl⟩
      · rintro j c H5 hc ⟨s5, h5⟩
        refine ⟨rfl, ?_⟩
        have hcl := (List.getElem?_eq_some_iff.mp hc).1
        refine ⟨_, rfl, _, rfl, _, rfl, _, rfl, _, rfl, z, rfl, small80 (n := z.length) (by omega), ⟨_, rfl⟩, _, rfl, _, _, rfl, rfl, ?_⟩
        rw [count_wys, hcut]
        refine ⟨rfl, _, rfl, ?_⟩
        refine ite2 (fun h => ?_) (fun h => ?_)
        · have hno : c ∉ (z.cps.toList.drop st).take (e.toNat - st) := by
            have h' := of_decide_eq_true h
            have h2 := V.int.inj h'
            exact (wys_zero c _).mp (by omega)
          refine ⟨_, rfl, _, h5, ?_, same_over' s5 nD, ?_⟩
          · rw [List.length_map, List.length_map]
            exact small1000 (Nat.le_trans (List.length_filter_le _ _) (by rw [List.length_take]; omega))
          · rw [upd_same, take_filter hc, if_pos (by simpa using hno), List.map_append, List.map_append]; rfl
        · have hin : c ∈ (z.cps.toList.drop st).take (e.toNat - st) := Classical.byContradiction fun hno => h (decide_eq_true (by rw [(wys_zero c _).mpr hno]; rfl))
          refine ⟨s5, ?_⟩
          rw [take_filter hc, if_neg (by simpa using hin), List.append_nil]
          exact h5
      rintro H5 ⟨s5, h5⟩
      rw [List.take_length] at h5
      refine ⟨(by show 0 ≤ sizeLine; decide), fun l0 nl0 => ?_⟩
      generalize j6 : upd _ l0 _ = H6
      have s6 := upS j6 nl0; have e6 := upE j6
      refine ⟨_, _, Dp.strs (SqL.of (s6 _ _ h5)), Dp.strs (zs := []) (SqL.of e6), shaped_strs _ (asc_sgs fun c hc => rl c (List.mem_filter.mp hc).1), shaped_strs _ (fun z hz => nomatch hz), _, rfl, ?_⟩
      rw [eqv_strs_nil']
      have s06 := s1.trans (s5.trans s6)
      refine ite2 (fun h => ?_) (fun h => ?_)
      · have hall : (l.cps.toList.all fun c => decide (c ∈ (z.cps.toList.drop st).take (e.toNat - st))) = false := by
          rw [← Bool.not_eq_true]
          intro ha
          rw [List.all_eq_true] at ha
          have : ((l.cps.toList.filter fun c => !decide (c ∈ (z.cps.toList.drop st).take (e.toNat - st))).map sg) = [] := by
            rw [List.map_eq_nil_iff, List.filter_eq_nil_iff]
            intro c hc
            have := ha c hc
            simpa using this
          rw [decide_eq_true this] at h
          cases h
        rw [hall, Bool.false_and] at hsh
        rw [hsh] at q
        exact q H6 s06
      · have hall : (l.cps.toList.all fun c => decide (c ∈ (z.cps.toList.drop st).take (e.toNat - st))) = true := by
          have h' : decide (((l.cps.toList.filter fun c => !decide (c ∈ (z.cps.toList.drop st).take (e.toNat - st))).map sg) = []) = true := by
            cases q : decide (((l.cps.toList.filter fun c => !decide (c ∈ (z.cps.toList.drop st).take (e.toNat - st))).map sg) = []) with
            | true => rfl
            | false => rw [q] at h; exact absurd rfl h
          have h2 := List.map_eq_nil_iff.mp (of_decide_eq_true h')
          rw [List.all_eq_true]
          intro c hc
          have := List.filter_eq_nil_iff.mp h2 c hc
          simpa using this
        rw [hall, Bool.true_and] at hsh
        refine ⟨_, rfl, ?_⟩
        refine ⟨s06, e.toNat, some (.int e), by omega, ?_, hsh⟩
        have ee : e = ((e.toNat : Nat) : Int) := by omega
        exact congrArg (fun i => [some (V.str z), some (V.str l), some (V.ref t), some (V.int i), some (V.int e), none]) ee
    · refine ⟨_, rfl, _, _, _, rfl, .b_int _, true, rfl, ?_⟩
      refine iteF ?_
      refine ⟨_, rfl, _, _, _, rfl, .b_bool _, true, rfl, ?_⟩
      refine iteT ?_
      refine iteT ?_
      rw [bad (fun n e => nomatch e)] at q
      exact q H1 s1
    · refine ⟨_, rfl, _, _, _, rfl, (hno.same s1) H1 (Same.refl _), false, rfl, ?_⟩
      refine iteT ?_
      refine iteT ?_
      rw [bad hno.noint] at q
      exact q H1 s1
  · rintro σ H1 ⟨s1, st, v4, _, rfl, hsh⟩
    rw [List.drop_length] at hsh
    refine ⟨_, rfl, t, _, rfl, .inl (SqL.of (s1 _ _ ht)), ?_⟩
    rw [hsh] at q
    exact q H1 s1
abbrev sLawDeep : Stmt := top 24
def nLawDeep : List Str := ["many", "found", "k"]
theorem scLawDeep : FnScope nLawDeep ["many"] (defScope sLawDeep) := ⟨rfl, rfl, rfl, by decide +kernel, rfl, by decide +kernel, by decide +kernel⟩
theorem ok_deepL (T : Glb mg)  (F : Fun K "_law_deep" "_law_deep" sLawDeep f fd) : FnOk P w K mg base CX0 1 f fd ["many"] spDeepL := by
  refine F.ok scLawDeep (fun vs H Q E h => ?_) (fun cdv A outer s H vs Q E hr h => ?_)
  · obtain ⟨n, rfl, _⟩ := h
    rfl
  obtain ⟨n, rfl, n0, n1, q⟩ := h
  have hu := hu_of hr
  refine' ⟨_, ?TT, ?RR⟩
  case TT =>
    refine' pss_cons ?x146 ?x147
    case x146 =>
     refine' ps_set (i := 1) scLawDeep.nd rfl (Or.inl rfl) ?x148
     case x148 =>
      refine' pe_lst ?x149
      case x149 =>
       exact pa_nil
    case x147 =>
     refine' pss_cons ?x150 ?x151
     case x150 =>
      refine' ps_for PassesOwn.never rfl ?x152 (pg_name (i := 2) scLawDeep.nd rfl (Or.inl rfl)) ?x153
      case x152 =>
       refine' pi_range1 rfl T.m_range ?x154
       case x154 =>
        refine' pa_Name (pv 0) ?x155
        case x155 =>
         exact pa_nil
      case x153 =>
       refine' pss_one ?x156
       case x156 =>
        refine' ps_set (i := 1) scLawDeep.nd rfl (Or.inl rfl) ?x157
        case x157 =>
         refine' pe_lst ?x158
         case x158 =>
          refine' pa_Name (pv 1) ?x159
          case x159 =>
           exact pa_nil
     case x151 =>
      refine' pss_one ?x160
      case x160 =>
       exact (ps_ret (pv 1))
  case RR =>
  refine ⟨(by show 0 ≤ sizeLine; decide), fun t nt => ?_⟩
  refine ⟨_, rfl, n, rfl, by omega, by omega, ?_⟩
  refine for_range (lo := 0) (n := n.toNat) (fun j σ H1 => Same H H1 ∧ ∃ (t : Addr) (xs : List V) (v1 : Option V), H t = none ∧ H1 t = some (.lst xs) ∧ (1 ≤ j → ∃ b ys, xs = [.ref b] ∧ H b = none ∧ H1 b = some (.lst ys)) ∧ σ = [some (.int n), some (.ref t), v1]) ?_ ?_ ?_
  · exact ⟨same_new nt _, t, _, _, nt, upd_same, fun h => absurd h (by decide), rfl⟩
  · rintro j σ H1 hj ⟨s1, t, x, v1, ht0, ht, hb, rfl⟩
    refine ⟨_, rfl, (by show 1 ≤ sizeLine; decide), fun t2 nt2 => ?_⟩
    exact ⟨s1.trans (same_new nt2 _), t2, _, _, s1.free nt2, upd_same, fun _ => ⟨t, x, rfl, ht0, (upd_ne (ne_of_none ht nt2)).trans ht⟩, rfl⟩
  · rintro σ H1 ⟨s1, t, x, v1, ht0, ht, hb, rfl⟩
    obtain ⟨b, ys, rfl, nb, eb⟩ := hb (by omega)
    exact ⟨_, rfl, q t b ys H1 s1 ht0 nb ht eb⟩
end
end Lv
set_option Elab.async false
set_option linter.all false
set_option maxRecDepth 100000
set_option maxHeartbeats 4000000
namespace L2
open PySem PySem.Spec PyProof.Rows
def SmL (ns : List Int) : Prop := ns.length ≤ 200 ∧ ∀ n ∈ ns, n.natAbs ≤ 200
theorem sm_leaf : ∀ ns : List Int, (∀ n ∈ ns, n.natAbs ≤ 200) → PyData.leavesShortAll 13 (ns.map PyData.int) = true
  | [], _ => rfl
  | n :: ns, h => by
    have h1 := h n List.mem_cons_self
    show (decide ((PyData.shown (.int n)).length ≤ 13) && PyData.leavesShortAll 13 (ns.map PyData.int)) = true
    rw [int_shown (Nat.lt_of_le_of_lt h1 (by decide)), sm_leaf ns fun m hm => h m (List.mem_cons_of_mem _ hm)]; rfl
theorem sm_weight : ∀ ns : List Int, (∀ n ∈ ns, n.natAbs ≤ 200) → PyData.weightAll (ns.map PyData.int) ≤ 20 * ns.length
  | [], _ => Nat.le_refl _
  | n :: ns, h => by
    have h1 := h n List.mem_cons_self
    have ih := sm_weight ns fun m hm => h m (List.mem_cons_of_mem _ hm)
    have hlg : n.natAbs.log2 < 10 := by
      by_cases e : n.natAbs = 0
      · rw [e]; decide
      · exact (Nat.log2_lt e).mpr (by omega)
    show (if n == 0 then 0 else n.natAbs.log2 + 1) + 1 + PyData.weightAll (ns.map PyData.int) ≤ 20 * (ns.length + 1)
    split <;> omega
theorem sm_depth : ∀ ns : List Int, PyData.depthAll (ns.map PyData.int) = 0
  | [] => rfl
  | n :: ns => by show max 0 (PyData.depthAll (ns.map PyData.int)) = 0; rw [sm_depth ns]; rfl
theorem sm_show (ns : List Int) (h : ∀ n ∈ ns, n.natAbs ≤ 200) : PyData.showableAll (ns.map PyData.int) = true := show_ints ns fun n hn => Nat.lt_of_le_of_lt (h n hn) (by decide)
theorem SmL.list {ns : List Int} (h : SmL ns) : Shw false (.list (ns.map PyData.int)) := by
  refine ⟨sm_show ns h.2, fun e => ?_, ?_, PyData.shown_fits (B := 13) (by decide) (by decide) (sm_leaf ns h.2) ?_⟩
  · have := nodict_ints ns
    have e : PyData.hasDictAll (ns.map PyData.int) = true := e
    rw [this] at e; cases e
  · show PyData.depthAll (ns.map PyData.int) + 1 ≤ 8
    rw [sm_depth]; decide
  · have := sm_weight ns h.2
    have := h.1
    show PyData.weightAll (ns.map PyData.int) ≤ 2 ^ 20
    omega
theorem SmL.tuple {ns : List Int} (h : SmL ns) : Shw false (.tuple (ns.map PyData.int)) := by
  refine ⟨sm_show ns h.2, fun e => ?_, ?_, PyData.shown_fits (B := 13) (by decide) (by decide) (sm_leaf ns h.2) ?_⟩
  · have := nodict_ints ns
    have e : PyData.hasDictAll (ns.map PyData.int) = true := e
    rw [this] at e; cases e
  · show PyData.depthAll (ns.map PyData.int) + 1 ≤ 8
    rw [sm_depth]; decide
  · have := sm_weight ns h.2
    have := h.1
    show PyData.weightAll (ns.map PyData.int) ≤ 2 ^ 20
    omega
theorem SmL.nest {ns : List Int} (h : SmL ns) : Shw false (.list [.list (ns.map PyData.int)]) := by
  refine ⟨?_, fun e => ?_, ?_, PyData.shown_fits (B := 13) (by decide) (by decide) ?_ ?_⟩
  · show (PyData.showableAll (ns.map PyData.int) && true) = true
    rw [sm_show ns h.2]; rfl
  · have := nodict_ints ns
    have e : (PyData.hasDictAll (ns.map PyData.int) || false) = true := e
    rw [this] at e; cases e
  · show max (PyData.depthAll (ns.map PyData.int) + 1) 0 + 1 ≤ 8
    rw [sm_depth]; decide
  · show (PyData.leavesShortAll 13 (ns.map PyData.int) && true) = true
    rw [sm_leaf ns h.2]; rfl
  · have := sm_weight ns h.2
    have := h.1
    show PyData.weightAll (ns.map PyData.int) + 1 + 0 ≤ 2 ^ 20
    omega
theorem dai_keys : ∀ (ns : List Int) (i : Int), 0 ≤ i → i.natAbs + ns.length ≤ 200 → (∀ n ∈ ns, n.natAbs ≤ 200) →
    PyData.showableKv (daiOf (enI i ns)) = true ∧ PyData.leavesShortKv 13 (daiOf (enI i ns)) = true ∧ PyData.weightKv (daiOf (enI i ns)) ≤ 40 * ns.length ∧ PyData.depthKv (daiOf (enI i ns)) = 0
  | [], _, _, _, _ => ⟨rfl, rfl, Nat.le_refl _, rfl⟩
  | n :: ns, i, hi, hl, h => by
    have h1 := h n List.mem_cons_self
    rw [List.length_cons] at hl
    obtain ⟨a1, a2, a3, a4⟩ := dai_keys ns (i + 1) (by omega) (by omega) fun m hm => h m (List.mem_cons_of_mem _ hm)
    have lg : ∀ k : Int, k.natAbs ≤ 200 → k.natAbs.log2 < 10 := fun k hk => by
      by_cases e : k.natAbs = 0
      · rw [e]; decide
      · exact (Nat.log2_lt e).mpr (by omega)
    have l1 := lg n h1
    have l2 := lg i (by omega)
    refine ⟨?_, ?_, ?_, ?_⟩
    · show (decide (i.natAbs.log2 < 1920) && decide (n.natAbs.log2 < 1920) && PyData.showableKv (daiOf (enI (i + 1) ns))) = true
      rw [a1, decide_eq_true (show i.natAbs.log2 < 1920 by omega), decide_eq_true (show n.natAbs.log2 < 1920 by omega)]; rfl
    · show (decide ((PyData.shown (.int i)).length ≤ 13) && decide ((PyData.shown (.int n)).length ≤ 13) && PyData.leavesShortKv 13 (daiOf (enI (i + 1) ns))) = true
      rw [a2, int_shown (show i.natAbs < 1000 by omega), int_shown (show n.natAbs < 1000 by omega)]; rfl
    · show (if i == 0 then 0 else i.natAbs.log2 + 1) + (if n == 0 then 0 else n.natAbs.log2 + 1) + 2 + PyData.weightKv (daiOf (enI (i + 1) ns)) ≤ 40 * (ns.length + 1)
      split <;> split <;> omega
    · show max (max 0 0) (PyData.depthKv (daiOf (enI (i + 1) ns))) = 0
      rw [a4]; rfl
theorem SmL.dict {ns : List Int} (h : SmL ns) : Shw true (.dict (daiOf (enI 0 ns))) := by
  obtain ⟨a1, a2, a3, a4⟩ := dai_keys ns 0 (by decide) (by have := h.1; simpa using this) h.2
  refine ⟨a1, fun _ => rfl, ?_, PyData.shown_fits (B := 13) (by decide) (by decide) a2 ?_⟩
  · show PyData.depthKv (daiOf (enI 0 ns)) + 1 ≤ 8
    rw [a4]; decide
  · have := h.1
    show PyData.weightKv (daiOf (enI 0 ns)) ≤ 2 ^ 20
    omega
/-- signs that are signs -/
def B8 (z : Str) : Prop := ∀ c ∈ z.cps.toList, c < 16 ^ 8
theorem B8.app {x y : Str} (h : B8 x) (h' : B8 y) : B8 (x ++ y) := fun c hc => by
  rw [app_cps] at hc
  exact (List.mem_append.mp hc).elim (h c) (h' c)
theorem b8_of (s : String) : B8 (Str.ofString s) := fun c hc => by
  rw [signs_ofString] at hc
  obtain ⟨d, _, rfl⟩ := List.mem_map.mp hc
  have : d.toNat < 1114112 := by
    rcases d.valid with h | ⟨_, h⟩
    · exact Nat.lt_trans h (by decide)
    · exact h
  omega
theorem b8_from : ∀ (ts : List Str) (k : Nat) (acc : Str), B8 acc → (∀ t ∈ ts, B8 t) → B8 (textFrom k acc ts)
  | [], k, acc, ha, _ => ha
  | t :: ts, k, acc, ha, h => by
    have ht := h t List.mem_cons_self
    rw [textFrom]
    refine b8_from ts _ _ ?_ fun u hu => h u (List.mem_cons_of_mem _ hu)
    split <;> first | exact ha.app ht | exact (ha.app (b8_of _)).app ht | exact ha.app ((b8_of _).app ht)
theorem SmL.text {ns : List Int} (h : SmL ns) : Shw false (.str (PyData.shown (.list (ns.map PyData.int)))) := by
  have hb : B8 (PyData.shown (.list (ns.map PyData.int))) := by
    show B8 (listText (PyData.shownAll (ns.map PyData.int)))
    unfold listText
    refine (b8_from _ 0 _ (b8_of _) fun t ht => ?_).app (b8_of _)
    have key : ∀ (ns : List Int), ∀ t ∈ PyData.shownAll (ns.map PyData.int), B8 t := by
      intro ns
      induction ns with
      | nil => intro t ht; cases ht
      | cons n ns ih =>
        intro t ht
        rcases List.mem_cons.mp (show t ∈ PyData.shown (.int n) :: PyData.shownAll (ns.map PyData.int) from ht) with rfl | ht
        · exact b8_of _
        · exact ih t ht
    exact key ns t ht
  have hl : (PyData.shown (.list (ns.map PyData.int))).length ≤ 10000 := by
    have h1 := listText_len_le (PyData.shownAll (ns.map PyData.int))
    have h2 := len_ints ns fun n hn => Nat.lt_of_le_of_lt (h.2 n hn) (by decide)
    have h3 := h.1
    show (listText (PyData.shownAll (ns.map PyData.int))).length ≤ 10000
    omega
  refine ⟨rfl, (fun e => nomatch e), by show 0 ≤ 8; decide, PyData.shown_fits (B := 13) (by decide) (by decide) ?_ ?_⟩
  · show ((PyData.shown (.list (ns.map PyData.int))).cps.toList.all fun c => decide (c < 16 ^ 8)) = true
    rw [List.all_eq_true]
    exact fun c hc => decide_eq_true (hb c hc)
  · show (PyData.shown (.list (ns.map PyData.int))).length ≤ 2 ^ 20
    omega
theorem thg_ints {p a : Addr} {H : Hp} {ns : List Int} (e : H a = some (.lst (ns.map V.int))) (n1 : a ≠ p) (h : SmL ns) : Thg p H (.ref a) :=
  ⟨false, _, .lst e n1 (fun z => nomatch z) (tgAll_ints ns), h.list⟩
theorem thg_tup {p a : Addr} {H : Hp} {ns : List Int} (e : H a = some (.tup (ns.map V.int))) (n1 : a ≠ p) (h : SmL ns) : Thg p H (.ref a) :=
  ⟨false, _, .tup e n1 (tgAll_ints ns), h.tuple⟩
theorem thg_nest {p a b : Addr} {H : Hp} {ns : List Int} (e : H a = some (.lst [.ref b])) (n1 : a ≠ p) (e2 : H b = some (.lst (ns.map V.int))) (n2 : b ≠ p) (h : SmL ns) : Thg p H (.ref a) :=
  ⟨false, _, .lst e n1 (fun z => nomatch z) (.cons (.lst e2 n2 (fun z => nomatch z) (tgAll_ints ns)) .nil), h.nest⟩
theorem thg_dict {p a : Addr} {H : Hp} {ns : List Int} (e : H a = some (.dK (kviOf (enI 0 ns)))) (n1 : a ≠ p) (h : SmL ns) : Thg p H (.ref a) :=
  ⟨true, _, .dct e n1, h.dict⟩
theorem thg_text {p : Addr} {H : Hp} {ns : List Int} (h : SmL ns) : Thg p H (.str (PyData.shown (.list (ns.map PyData.int)))) := ⟨false, _, .str _, h.text⟩
theorem thg_one {p a : Addr} {H : Hp} {v : V} {d : PyData} (e : H a = some (.lst [v])) (n1 : a ≠ p) (t : Tg false p H v d) (h : Shw false (.list [d])) : Thg p H (.ref a) :=
  ⟨false, _, .lst e n1 (fun z => nomatch z) (.cons t .nil), h⟩
theorem thg_int {p : Addr} {H : Hp} {i : Int} (h : i.natAbs ≤ 200) : Thg p H (.int i) :=
  ⟨false, _, .int i, ⟨decide_eq_true (int_log (Nat.lt_of_le_of_lt h (by decide))), (fun e => nomatch e), by show 0 ≤ 8; decide, Nat.le_trans (PyData.shown_int_le (Nat.lt_of_le_of_lt h (by decide))) (by decide)⟩⟩
theorem swaps_lst9 (es : List Expr) (p : Pos) (tg : Option Expr) (n : Nat) (env : Env) : swapsWith (.List es p) tg n env = pure false := rfl
theorem ps_setL9 {X : Cx} {i : Nat} {x : Str} {es : List Expr} {p pos pos' : Pos} {te : TE} (hN : X.N.Nodup) (hi : X.N[i]? = some x) (hx : Loc X.env.scope x) (he : PE X (.List es p) te) (hf : X.fn x = true ∨ X.env.scope.names.lookup x = some .local) : PS X (.Assign [.Name x pos'] (.List es p) pos) (tAsg te (gName i)) :=
  ps_set hN hi hx he (swaps_lst9 _ _ _ _ _) hf
theorem swaps_bin (a : Expr) (op : Operator) (b : Expr) (p : Pos) (tg : Option Expr) (n : Nat) (env : Env) : swapsWith (.BinOp a op b p) tg n env = pure false := rfl
theorem ps_setB {X : Cx} {i : Nat} {x : Str} {a b : Expr} {op : Operator} {p pos pos' : Pos} {te : TE} (hN : X.N.Nodup) (hi : X.N[i]? = some x) (hx : Loc X.env.scope x) (he : PE X (.BinOp a op b p) te) (hf : X.fn x = true ∨ X.env.scope.names.lookup x = some .local) : PS X (.Assign [.Name x pos'] (.BinOp a op b p) pos) (tAsg te (gName i)) :=
  ps_set hN hi hx he (swaps_bin _ _ _ _ _ _ _) hf
def fromOne (j : Nat) : List Int := (List.range j).map fun i : Nat => 1 + (i : Int)
theorem fromOne_len (j : Nat) : (fromOne j).length = j := by rw [fromOne, List.length_map, List.length_range]
theorem vals_from1 {acc : Array Value} {n : Nat} (h : ItemsOf (fun i v => ∃ t, v = Value.int (1 + (i : Int) * 1) t) acc n) : Vals ((fromOne n).map V.int) acc.toList := by
  have key : ∀ (k m : Nat) (us : List Value), us.length = m → (∀ (j : Nat) (v : Value), us[j]? = some v → ∃ t, v = Value.int (1 + ((k + j : Nat) : Int)) t) → Vals ((List.range' k m).map fun i => V.int (1 + ((i : Nat) : Int))) us := by
    intro k m
    induction m generalizing k with
    | zero => intro us hl _; cases us with
      | nil => exact .nil
      | cons a b => cases hl
    | succ m ih =>
      intro us hl hi
      cases us with
      | nil => cases hl
      | cons u us =>
        obtain ⟨t, e⟩ := hi 0 u rfl
        rw [Nat.add_zero] at e
        rw [List.range'_succ]
        refine .cons ⟨t, e⟩ (ih (k + 1) us (by simpa using hl) fun j v hj => ?_)
        obtain ⟨t, e⟩ := hi (j + 1) v (by simpa using hj)
        refine ⟨t, ?_⟩
        have : k + 1 + j = k + (j + 1) := by omega
        rw [this]; exact e
  have e : (fromOne n).map V.int = (List.range' 0 n).map fun i => V.int (1 + ((i : Nat) : Int)) := by rw [fromOne, List.map_map, List.range_eq_range']; rfl
  rw [e]
  refine key 0 n _ (by rw [Array.length_toList]; exact h.1) fun j v hj => ?_
  obtain ⟨t, e⟩ := h.2 j v (by rw [← Array.getElem?_toList]; exact hj)
  refine ⟨t, ?_⟩
  rw [e, Int.mul_one, Nat.zero_add]
def tLR2 (ta : TA) : TE := fun σ H Q => ta σ H fun vs H1 => ∃ j : Nat, vs = [.int 1, .int ((j : Int) + 1)] ∧ j ≤ 10000 ∧ ∀ p, H1 p = none → Q (.ref p) (upd H1 p (.lst ((fromOne j).map V.int)))
theorem pe_listRange2 {X : Cx} {e f : Expr} {ta : TA} {p p2 pos pos2 : Pos} (hc : X.calm = true) (hgl : Gl X "list") (hml : X.mg "list" = none) (hg : Gl X "range") (hm : X.mg "range" = none) (ha : PA X [e, f] ta)
    (hs : starEach [e, f] X.env = [(false, eval e X.env), (false, eval f X.env)] := by rfl) (hsf : starEach [f] X.env = [(false, eval f X.env)] := by rfl) (hs2 : starEach [Expr.Call (.Name "range" p2) [e, f] [] pos2] X.env = [(false, eval (Expr.Call (.Name "range" p2) [e, f] [] pos2) X.env)] := by rfl) :
    PE X (.Call (.Name "list" p) [.Call (.Name "range" p2) [e, f] [] pos2] [] pos) (tLR2 ta) := by
  intro pins s σ H Q I h
  refine wpAny_Call_Name_kw (ld_blt (u := .type "list") I hgl hml (by decide +kernel) ?_)
  refine PyProof.Rows.callWith_type1 ?_ hs2 rfl
  rw [hs2]
  show wpAny _ _ (spliced ((false, eval _ X.env) :: backTo pos [])) _ _ s
  refine Calls.spliced_cons (Call_ (ld_blt I hg hm boot_range (PyProof.Rows.callWith_type1 (thn (ha pos2 pins s σ H _ I h) fun us s1 ⟨vs, H1, I1, r1, q1⟩ => ?_) (by rw [hs, hsf]) (by rw [hsf]; rfl))))
  obtain ⟨j, ex, hj, q⟩ := q1
  subst ex
  cases r1 with
  | cons r rr =>
    cases rr with
    | cons r' rr =>
    cases rr
    obtain ⟨t, rfl⟩ := r
    obtain ⟨t', rfl⟩ := r'
    refine call_range_2 (Calls.spliced_nil ?_)
    have I2 : Inv X pins σ H1 { s1 with heap := s1.heap.push { cls := Value.type "range", data := Data.fields #[Value.int 1 t, Value.int ((j : Int) + 1) t', Value.int 1 s1.toks] }, toks := s1.toks + 1 } := I1.kept (t' := s1.toks + 1) (fun b o e => Heap.get?_push_of_some _ e)
    have rs : Builtin.Range.rangeSize 1 ((j : Int) + 1) 1 = (j : Int) := by
      unfold Builtin.Range.rangeSize
      rw [if_pos (by decide)]
      split <;> omega
    refine call_list_range (n := j) (a := 1) (b := (j : Int) + 1) (c := 1) (t := t) (u := t') (v := s1.toks) (I2.ok.hd hc) (Heap.get?_push_size _ rfl) ?_ ?_ (by omega) fun h' tk acc c' hk hS hacc => ?_
    · unfold Builtin.Range.small
      simp [Builtin.Range.rangeFitsLong, rs]
      omega
    · exact rs
    · refine ⟨.ref _, _, I2.laid (t' := tk) (o := .lst ((fromOne j).map V.int)) hk (Nat.le_refl _) ?_, rfl, q _ (I2.hok.fresh (Nat.le_refl _))⟩
      exact ⟨by rw [List.length_map, fromOne_len]; exact Nat.le_trans hj (by decide), acc.toList, c', vals_from1 hacc, by simpa using hS⟩
theorem SmL.snoc {ks : List Int} {n : Int} (h : SmL ks) (hl : ks.length ≤ 100) (hn : n.natAbs ≤ 200) : SmL (ks ++ [n]) := by
  refine ⟨by rw [List.length_append, List.length_singleton]; omega, fun i hi => ?_⟩
  rcases List.mem_append.mp hi with hi | hi
  · exact h.2 i hi
  · rw [List.mem_singleton.mp hi]; exact hn
theorem SmL.one {n : Int} (hn : n.natAbs ≤ 200) : SmL [n] := ⟨by show 1 ≤ 200; decide, fun i hi => by rw [List.mem_singleton.mp hi]; exact hn⟩
theorem SmL.none : SmL [] := ⟨by decide, fun i hi => nomatch hi⟩
theorem SmL.rev {ks : List Int} (h : SmL ks) : SmL ks.reverse := ⟨by rw [List.length_reverse]; exact h.1, fun i hi => h.2 i (List.mem_reverse.mp hi)⟩
theorem smFrom (j : Nat) (h : j ≤ 100) : SmL (fromOne j) := ⟨by rw [fromOne_len]; omega, fun i hi => by
  obtain ⟨k, hk, rfl⟩ := List.mem_map.mp hi
  have := List.mem_range.mp hk
  omega⟩
theorem kp_none {p c : Addr} {H H' : Hp} (k : Kp p H H') (h : c ≠ p) (n : H' c = none) : H c = none := by
  cases e : H c with
  | none => rfl
  | some o => rw [k c o e h] at n; cases n
theorem Od.over {m : Nat} {p f : Addr} {H : Hp} {v : V} {xs : List V} {o' : HO} (o : Od m p H v) (hf : H f = some (.lst xs)) (hx : xs ≠ [.int 1]) : Od m p (upd H f o') v := by
  cases o with
  | non => exact .non
  | bl b => exact .bl b
  | int i h => exact .int i h
  | str z h => exact .str z h
  | lst e n1 n2 =>
    refine .lst ?_ n1 n2
    rw [upd_ne (fun z => ?_)]
    · exact e
    · subst z; rw [hf] at e; exact hx (HO.lst.inj (Option.some.inj e))
  | tup e n1 =>
    refine .tup ?_ n1
    rw [upd_ne (fun z => ?_)]
    · exact e
    · subst z; rw [hf] at e; cases e
  | dct e n1 =>
    refine .dct ?_ n1
    rw [upd_ne (fun z => ?_)]
    · exact e
    · subst z; rw [hf] at e; cases e
theorem map_snoc (ks : List Int) (n : Int) : ks.map V.int ++ [V.int n] = (ks ++ [n]).map V.int := by rw [List.map_append]; rfl
end L2
set_option Elab.async false
set_option linter.all false
set_option maxRecDepth 100000
set_option maxHeartbeats 8000000
namespace L2
open PySem
theorem cutV_to' (xs : List V) (n : Nat) : cutV xs none (some (n : Int)) = xs.take n := by
  unfold cutV
  rw [HT.sIx_nat, HT.sIx_none, List.drop_zero, Nat.sub_zero, List.take_eq_take_iff]
  omega
theorem cutV_from' (xs : List V) (n : Nat) : cutV xs (some (n : Int)) none = xs.drop n := by
  unfold cutV
  rw [HT.sIx_nat, HT.sIx_none]
  by_cases h : n ≤ xs.length
  · rw [Nat.min_eq_left h, List.take_of_length_le (by rw [List.length_drop]; exact Nat.le_refl _)]
  · rw [Nat.min_eq_right (by omega), Nat.sub_self, List.take_zero, List.drop_eq_nil_of_le (by omega)]
theorem Od.isI {K : PySem.W.Frag} {m : Nat} {p : Addr} {H : Hp} {v : V} (o : Od m p H v) : ∃ b, IsI K H v "int" b ∧ (b = true → (∃ i : Int, v = .int i ∧ i.natAbs ≤ m) ∨ ∃ c, v = .bl c) := by
  cases o with
  | non => exact ⟨_, .n_int, fun e => nomatch e⟩
  | bl b => exact ⟨_, .b_int b, fun _ => .inr ⟨b, rfl⟩⟩
  | int i h => exact ⟨_, .i_int i, fun _ => .inl ⟨i, rfl, h⟩⟩
  | str z h => exact ⟨_, .s_int z, fun e => nomatch e⟩
  | lst e n1 n2 => exact ⟨_, .lr_int _ _ (SqL.of e), fun e => nomatch e⟩
  | tup e n1 => exact ⟨_, .tr_int _ _ (SqT.of e), fun e => nomatch e⟩
  | dct e n1 => exact ⟨_, .dr_int _ _ (.inl e), fun e => nomatch e⟩
theorem small200 {n : Nat} (h : n ≤ 4000) : n ≤ sizeLine := Nat.le_trans h (by decide)
end L2
namespace Lv
open PySem L2
section
variable {P : Program} {w : World} {K : PySem.W.Frag} {mg : Str → Option Value} {base : Heap} {f : Addr} {fd : FuncData}
abbrev sLawSpoilt : Stmt := top 22
def nLawSpoilt : List Str := ["draws", "some", "size", "at", "one", "way"]
theorem scLawSpoilt : FnScope nLawSpoilt ["draws", "some", "size"] (defScope sLawSpoilt) := ⟨rfl, rfl, rfl, by decide +kernel, rfl, by decide +kernel, by decide +kernel⟩
theorem ok_spoilt (T : Glb mg) (c_law_take : Callee P w K mg base 1 "_law_take" ["draws", "many"] spTake) (c_law_odd : Callee P w K mg base 2 "_law_odd" ["draws", "size"] spOdd) (F : Fun K "_law_spoilt" "_law_spoilt" sLawSpoilt f fd) : FnOk P w K mg base CX0 3 f fd ["draws", "some", "size"] spSpoilt39 := by
  refine F.ok scLawSpoilt (fun vs H Q E h => ?_) (fun cdv A outer s H vs Q E hr h => ?_)
  · obtain ⟨p, a, xs, n, m, rfl, _⟩ := h
    rfl
  obtain ⟨p, a, xs, n, m, rfl, hD, ha, nap, hod, hlen, n0, n1, hm, q⟩ := h
  have hu := hu_of hr
  refine' ⟨_, ?TT, ?RR⟩
  case TT =>
    refine' pss_cons ?x255 ?x256
    case x255 =>
     refine' ps_set (i := 3) scLawSpoilt.nd rfl (Or.inl rfl) ?x257
     case x257 =>
      refine' pe_op op_mod ?x258 ?x259
      case x258 =>
       refine' pe_callC c_law_take hr rfl ?x260
       case x260 =>
        refine' pa_Name (pv 0) ?x261
        case x261 =>
         refine' pa_Const ?x262 ?x263
         case x262 =>
          exact pe_int
         case x263 =>
          exact pa_nil
      case x259 =>
       refine' pe_op op_add ?x264 ?x265
       case x264 =>
        refine' pe_callB call_len_seq rfl T.m_len PySem.boot_len ?x266
        case x266 =>
         refine' pa_Name (pv 1) ?x267
         case x267 =>
          exact pa_nil
       case x265 =>
        exact pe_int
    case x256 =>
     refine' pss_cons ?x268 ?x269
     case x268 =>
      refine' ps_set (i := 4) scLawSpoilt.nd rfl (Or.inl rfl) ?x270
      case x270 =>
       refine' pe_ix ix_list ?x271 (pv 3) (fun _ _ => rfl)
       case x271 =>
        refine' pe_op op_cat (pv 1) ?x272
        case x272 =>
         refine' pe_lst ?x273
         case x273 =>
          refine' pa_Name (pv 2) ?x274
          case x274 =>
           exact pa_nil
     case x269 =>
      refine' pss_cons ?x275 ?x276
      case x275 =>
       refine' ps_set (i := 5) scLawSpoilt.nd rfl (Or.inl rfl) ?x277
       case x277 =>
        refine' pe_callC c_law_take hr rfl ?x278
        case x278 =>
         refine' pa_Name (pv 0) ?x279
         case x279 =>
          refine' pa_Const ?x280 ?x281
          case x280 =>
           exact pe_int
          case x281 =>
           exact pa_nil
      case x276 =>
       refine' pss_cons ?x282 ?x283
       case x282 =>
        refine' ps_if ?x284 ?x285 ?x286
        case x284 =>
         refine' pt_cmpR op_eq (pv 5) ?x287 (nomark _)
         case x287 =>
          exact pe_int
        case x285 =>
         refine' pss_one ?x288
         case x288 =>
          refine' ps_ret ?x289
          case x289 =>
           refine' pe_op op_catN ?x290 ?x291
           case x290 =>
            exact (pe_slice sl_list (pv 1) po_none (po_some (pv 3)))
           case x291 =>
            exact (pe_slice sl_list (pv 1) (po_some (pe_op op_add (pv 3) pe_int)) po_none)
        case x286 =>
         exact pss_nil
       case x283 =>
        refine' pss_cons ?x292 ?x293
        case x292 =>
         refine' ps_if ?x294 ?x295 ?x296
         case x294 =>
          refine' pt_cmpR op_eq (pv 5) ?x297 (nomark _)
          case x297 =>
           exact pe_int
         case x295 =>
          refine' pss_one ?x298
          case x298 =>
           refine' ps_ret ?x299
           case x299 =>
            refine' pe_op op_catN ?x300 ?x301
            case x300 =>
             refine' pe_op op_cat ?x302 ?x303
             case x302 =>
              exact (pe_slice sl_list (pv 1) po_none (po_some (pv 3)))
             case x303 =>
              refine' pe_lst ?x304
              case x304 =>
               refine' pa_Name (pv 4) ?x305
               case x305 =>
                exact pa_nil
            case x301 =>
             exact (pe_slice sl_list (pv 1) (po_some (pv 3)) po_none)
         case x296 =>
          exact pss_nil
        case x293 =>
         refine' pss_cons ?x306 ?x307
         case x306 =>
          refine' ps_if ?x308 ?x309 ?x310
          case x308 =>
           refine' pt_cmpR op_eq (pv 5) ?x311 (nomark _)
           case x311 =>
            exact pe_int
          case x309 =>
           refine' pss_one ?x312
           case x312 =>
            refine' ps_ret ?x313
            case x313 =>
             refine' pe_op op_catN ?x314 ?x315
             case x314 =>
              refine' pe_op op_cat ?x316 ?x317
              case x316 =>
               exact (pe_slice sl_list (pv 1) po_none (po_some (pv 3)))
              case x317 =>
               refine' pe_revL ?x318
               case x318 =>
                exact (pe_slice sl_list (pv 1) (po_some (pv 3)) (po_some (pe_op op_add (pv 3) pe_int)))
             case x315 =>
              exact (pe_slice sl_list (pv 1) (po_some (pe_op op_add (pv 3) pe_int)) po_none)
          case x310 =>
           exact pss_nil
         case x307 =>
          refine' pss_cons ?x319 ?x320
          case x319 =>
           refine' ps_if ?x321 ?x322 ?x323
           case x321 =>
            refine' PW.pt ?x324
            case x324 =>
             refine' pw_and ?x325 ?x326
             case x325 =>
              refine' pt_cmpR op_lt (pv 5) ?x327 (nomark _)
              case x327 =>
               exact pe_int
             case x326 =>
              refine' pw_and1 ?x328
              case x328 =>
               refine' pt_val ?x329
               case x329 =>
                refine' pe_callB cr_isi rfl T.m_isinstance (by decide +kernel) ?x330
                case x330 =>
                 refine' pa_Name (pv 4) ?x331
                 case x331 =>
                  refine' pa_Name ?x332 ?x333
                  case x332 =>
                   exact (pe_bltn (v := .ty "int") rfl T.m_int (by decide +kernel) rfl)
                  case x333 =>
                   exact pa_nil
           case x322 =>
            refine' pss_one ?x334
            case x334 =>
             refine' ps_ret ?x335
             case x335 =>
              refine' pe_op op_catN ?x336 ?x337
              case x336 =>
               refine' pe_op op_cat ?x338 ?x339
               case x338 =>
                exact (pe_slice sl_list (pv 1) po_none (po_some (pv 3)))
               case x339 =>
                refine' pe_lst ?x340
                case x340 =>
                 refine' pa_BinOp ?x341 ?x342
                 case x341 =>
                  refine' pe_op op_addI (pv 4) ?x343
                  case x343 =>
                   refine' pe_ix ix_list ?x344 ?x345 (fun _ _ => rfl)
                   case x344 =>
                    refine' pe_lst ?x346
                    case x346 =>
                     refine' pa_Const ?x347 ?x348
                     case x347 =>
                      exact pe_int
                     case x348 =>
                      refine' pa_UnaryOp ?x349 ?x350
                      case x349 =>
                       refine' pe_un un_neg ?x351
                       case x351 =>
                        exact pe_int
                      case x350 =>
                       refine' pa_Const ?x352 ?x353
                       case x352 =>
                        exact pe_int
                       case x353 =>
                        refine' pa_UnaryOp ?x354 ?x355
                        case x354 =>
                         refine' pe_un un_neg ?x356
                         case x356 =>
                          exact pe_int
                        case x355 =>
                         exact pa_nil
                   case x345 =>
                    refine' pe_callC c_law_take hr rfl ?x357
                    case x357 =>
                     refine' pa_Name (pv 0) ?x358
                     case x358 =>
                      refine' pa_Const ?x359 ?x360
                      case x359 =>
                       exact pe_int
                      case x360 =>
                       exact pa_nil
                 case x342 =>
                  exact pa_nil
              case x337 =>
               exact (pe_slice sl_list (pv 1) (po_some (pe_op op_add (pv 3) pe_int)) po_none)
           case x323 =>
            exact pss_nil
          case x320 =>
           refine' pss_cons ?x361 ?x362
           case x361 =>
            refine' ps_if ?x363 ?x364 ?x365
            case x363 =>
             refine' pt_cmpR op_eq (pv 5) ?x366 (nomark _)
             case x366 =>
              exact pe_int
            case x364 =>
             refine' pss_one ?x367
             case x367 =>
              refine' ps_ret ?x368
              case x368 =>
               refine' pe_op op_catN ?x369 ?x370
               case x369 =>
                refine' pe_op op_cat ?x371 ?x372
                case x371 =>
                 exact (pe_slice sl_list (pv 1) po_none (po_some (pv 3)))
                case x372 =>
                 refine' pe_lst ?x373
                 case x373 =>
                  refine' pa_Call ?x374 ?x375
                  case x374 =>
                   refine' pe_callC c_law_take hr rfl ?x376
                   case x376 =>
                    refine' pa_Name (pv 0) ?x377
                    case x377 =>
                     refine' pa_BinOp ?x378 ?x379
                     case x378 =>
                      refine' pe_op op_add (pv 2) ?x380
                      case x380 =>
                       exact pe_int
                     case x379 =>
                      exact pa_nil
                  case x375 =>
                   exact pa_nil
               case x370 =>
                exact (pe_slice sl_list (pv 1) (po_some (pe_op op_add (pv 3) (pe_callC c_law_take hr rfl (by exact pa_Name (pv 0) (by exact pa_Const pe_int pa_nil))))) po_none)
            case x365 =>
             exact pss_nil
           case x362 =>
            refine' pss_cons ?x381 ?x382
            case x381 =>
             refine' ps_if ?x383 ?x384 ?x385
             case x383 =>
              refine' PW.pt ?x386
              case x386 =>
               refine' pw_and ?x387 ?x388
               case x387 =>
                refine' pt_cmpR op_eq (pv 5) ?x389 (nomark _)
                case x389 =>
                 exact pe_int
               case x388 =>
                refine' pw_and1 ?x390
                case x390 =>
                 refine' pt_cmpR (op_eq1 hr.units) (pv 4) ?x391 (nomark _)
                 case x391 =>
                  exact pe_int
             case x384 =>
              refine' pss_one ?x392
              case x392 =>
               refine' ps_ret ?x393
               case x393 =>
                refine' pe_op op_catN ?x394 ?x395
                case x394 =>
                 refine' pe_op op_cat ?x396 ?x397
                 case x396 =>
                  exact (pe_slice sl_list (pv 1) po_none (po_some (pv 3)))
                 case x397 =>
                  refine' pe_lst ?x398
                  case x398 =>
                   refine' pa_Const ?x399 ?x400
                   case x399 =>
                    exact pe_bl
                   case x400 =>
                    exact pa_nil
                case x395 =>
                 exact (pe_slice sl_list (pv 1) (po_some (pe_op op_add (pv 3) pe_int)) po_none)
             case x385 =>
              exact pss_nil
            case x382 =>
             refine' pss_one ?x401
             case x401 =>
              refine' ps_ret ?x402
              case x402 =>
               refine' pe_op op_catN ?x403 ?x404
               case x403 =>
                refine' pe_op op_cat ?x405 ?x406
                case x405 =>
                 exact (pe_slice sl_list (pv 1) po_none (po_some (pv 3)))
                case x406 =>
                 refine' pe_lst ?x407
                 case x407 =>
                  refine' pa_Call ?x408 ?x409
                  case x408 =>
                   refine' pe_callC c_law_odd hr rfl ?x410
                   case x410 =>
                    refine' pa_Name (pv 0) ?x411
                    case x411 =>
                     refine' pa_Name (pv 2) ?x412
                     case x412 =>
                      exact pa_nil
                  case x409 =>
                   exact pa_nil
               case x404 =>
                exact (pe_slice sl_list (pv 1) (po_some (pe_op op_add (pv 3) (pe_callC c_law_take hr rfl (by exact pa_Name (pv 0) (by exact pa_Const pe_int pa_nil))))) po_none)
  case RR =>
  have big5 : (100 : Nat) ≤ 10 ^ 60 := by decide
  have b2b : ∀ c : Bool, (PyProof.Rows.b2i c).natAbs ≤ 1 := by decide
  refine ⟨_, rfl, p, 1000, rfl, hD, by decide, fun a1 H1 a10 a11 hD1 k1 => ?_⟩
  refine ⟨_, rfl, a, xs, rfl, .inl (SqL.of (k1 _ _ ha nap)), _, _, rfl, rfl, _, _, rfl, rfl, by omega, ?_⟩
  have m0 : 0 ≤ a1 % ((xs.length : Int) + 1) := Int.emod_nonneg _ (by omega)
  have m1 : a1 % ((xs.length : Int) + 1) < (xs.length : Int) + 1 := Int.emod_lt_of_pos _ (by omega)
  dsimp only
  generalize a1 % ((xs.length : Int) + 1) = at_ at m0 m1
  obtain ⟨k, rfl⟩ := Int.eq_ofNat_of_zero_le m0
  have kl : k ≤ xs.length := by omega
  have ha1 := k1 _ _ ha nap
  refine ⟨_, rfl, _, rfl, (by show 1 ≤ sizeLine; decide), fun o1 no1 => ?_⟩
  generalize jo1 : upd _ o1 _ = G1
  have go1 := upS jo1 no1; have eo1 := upE jo1
  refine ⟨a, o1, xs, [.int n], rfl, rfl, go1 _ _ ha1, eo1, small200 (by show xs.length + 1 ≤ 4000; omega), fun o2 no2 => ?_⟩
  generalize jo2 : upd _ o2 _ = G2
  have go2 := upS jo2 no2; have eo2 := upE jo2
  have hD2 := hD1.same (go1.trans go2)
  have k2 : Kp p H G2 := k1.trans ((go1.trans go2).kp p)
  obtain ⟨y, hy⟩ : ∃ y, (xs ++ [V.int n])[k]? = some y := ⟨_, List.getElem?_eq_getElem (by rw [List.length_append]; show k < xs.length + 1; omega)⟩
  have oy : ∀ Hx, Kp p H Hx → Od m p Hx y := fun Hx kx => by
    rcases List.mem_append.mp (List.mem_of_getElem? hy) with h | h
    · exact (hod y h).kp kx
    · rw [List.mem_singleton.mp h]
      exact .int _ (Nat.le_trans (show n.natAbs ≤ 10 ^ 60 by omega) hm)
  refine ⟨_, rfl, o2, _, (k : Int), y, rfl, rfl, SqL.of eo2, atI_nat hy, ?_⟩
  refine ⟨_, rfl, p, 8, rfl, hD2, by decide, fun wy H3 w0 w1 hD3 k3 => ?_⟩
  have kk := k2.trans k3
  have ha3 := kk _ _ ha nap
  have done : ∀ (Hx : Hp) (ys : List V) (c : Addr), DrawsAt Hx p → Kp p H Hx → Hx c = none → c ≠ sysModules → (∀ v ∈ ys, Od (m + 2) p Hx v) → ys.length ≤ xs.length + 1 → Q (.ref c) (upd Hx c (.lst ys)) := fun Hx ys c hDx kx nc mc hys hyl => by
    have nh : c ≠ p := hDx.ne nc
    exact q c ys _ (hDx.same (same_new nc _)) (kx.new nc) upd_same nh mc (fun v hv => (hys v hv).same (same_new nc _)) hyl (kp_none kx nh nc)
  have oc : ∀ (Hx : Hp) (lo hi : Option Int), Kp p H Hx → ∀ v ∈ cutV xs lo hi, Od (m + 2) p Hx v := fun Hx lo hi kx v hv => ((hod v (List.mem_of_mem_drop (List.mem_of_mem_take hv))).kp kx).mono (by omega)
  have cA : (cutV xs none (some (k : Int))).length = k := by rw [cutV_to', List.length_take]; omega
  have cB : ∀ j : Nat, (cutV xs (some (j : Int)) none).length = xs.length - j := fun j => by rw [cutV_from', List.length_drop]
  have cC : (cutV xs (some (k : Int)) (some ((k + 2 : Nat) : Int))).length ≤ min (k + 2) xs.length - k := by
    unfold cutV
    rw [HT.sIx_nat, HT.sIx_nat, List.length_take]
    omega
  have e1 : (k : Int) + 1 = ((k + 1 : Nat) : Int) := rfl
  have e2 : (k : Int) + 2 = ((k + 2 : Nat) : Int) := rfl
  refine ⟨_, rfl, rfl, _, rfl, ?_⟩
  refine ite2 (fun _ => ?_) (fun _ => ?_)
  · refine ⟨_, rfl, _, rfl, _, rfl, a, xs, rfl, SqL.of ha3, fun c1 nc1 => ?_⟩
    generalize jc1 : upd _ c1 _ = G4
    have gc1 := upS jc1 nc1; have ec1 := upE jc1
    refine ⟨_, rfl, _, rfl, _, _, rfl, rfl, _, rfl, a, xs, rfl, SqL.of (gc1 _ _ ha3), fun c2 nc2 => ?_⟩
    generalize jc2 : upd _ c2 _ = G5
    have gc2 := upS jc2 nc2; have ec2 := upE jc2
    rw [e1] at ec2
    have k5 := kk.trans ((gc1.trans gc2).kp p)
    refine ⟨c1, c2, _, _, rfl, rfl, gc2 _ _ ec1, ec2, small200 (by rw [cA, cB]; omega), fun c3 nc3 mc3 => ?_⟩
    refine done G5 _ c3 (hD3.same (gc1.trans gc2)) k5 nc3 mc3 (fun v hv => ?_) (by rw [List.length_append, cA, cB]; omega)
    exact (List.mem_append.mp hv).elim (oc G5 _ _ k5 v) (oc G5 _ _ k5 v)
  refine ⟨_, rfl, rfl, _, rfl, ?_⟩
  refine ite2 (fun _ => ?_) (fun _ => ?_)
  · refine ⟨_, rfl, _, rfl, _, rfl, a, xs, rfl, SqL.of ha3, fun c1 nc1 => ?_⟩
    generalize jc1 : upd _ c1 _ = G4
    have gc1 := upS jc1 nc1; have ec1 := upE jc1
    refine ⟨_, rfl, (by show 1 ≤ sizeLine; decide), fun o3 no3 => ?_⟩
    generalize jo3 : upd _ o3 _ = G5
    have go3 := upS jo3 no3; have eo3 := upE jo3
    refine ⟨c1, o3, _, [y], rfl, rfl, go3 _ _ ec1, eo3, small200 (by rw [cA]; show k + 1 ≤ 4000; omega), fun c4 nc4 => ?_⟩
    generalize jc4 : upd _ c4 _ = G6
    have gc4 := upS jc4 nc4; have ec4 := upE jc4
    refine ⟨_, rfl, _, rfl, _, rfl, a, xs, rfl, SqL.of (gc4 _ _ (go3 _ _ (gc1 _ _ ha3))), fun c2 nc2 => ?_⟩
    generalize jc2 : upd _ c2 _ = G7
    have gc2 := upS jc2 nc2; have ec2 := upE jc2
    have g37 := gc1.trans (go3.trans (gc4.trans gc2))
    have k7 := kk.trans (g37.kp p)
    refine ⟨c4, c2, _, _, rfl, rfl, gc2 _ _ ec4, ec2, small200 (by rw [List.length_append, cA, cB]; show k + 1 + _ ≤ 4000; omega), fun c3 nc3 mc3 => ?_⟩
    refine done G7 _ c3 (hD3.same g37) k7 nc3 mc3 (fun v hv => ?_) (by rw [List.length_append, List.length_append, cA, cB]; show k + 1 + _ ≤ _; omega)
    rcases List.mem_append.mp hv with hv | hv
    · rcases List.mem_append.mp hv with hv | hv
      · exact oc G7 _ _ k7 v hv
      · rw [List.mem_singleton.mp hv]; exact (oy G7 k7).mono (by omega)
    · exact oc G7 _ _ k7 v hv
  refine ⟨_, rfl, rfl, _, rfl, ?_⟩
  refine ite2 (fun _ => ?_) (fun _ => ?_)
  · refine ⟨_, rfl, _, rfl, _, rfl, a, xs, rfl, SqL.of ha3, fun c1 nc1 => ?_⟩
    generalize jc1 : upd _ c1 _ = G4
    have gc1 := upS jc1 nc1; have ec1 := upE jc1
    refine ⟨_, rfl, _, rfl, _, rfl, _, rfl, _, _, rfl, rfl, _, rfl, a, xs, rfl, SqL.of (gc1 _ _ ha3), fun c2 nc2 => ?_⟩
    generalize jc2 : upd _ c2 _ = G5
    have gc2 := upS jc2 nc2; have ec2 := upE jc2
    refine ⟨c2, _, rfl, SqL.of ec2, fun c5 nc5 => ?_⟩
    generalize jc5 : upd _ c5 _ = G6
    have gc5 := upS jc5 nc5; have ec5 := upE jc5
    have lC : (cutV xs (some (k : Int)) (some ((k : Int) + 2))).reverse.length ≤ min (k + 2) xs.length - k := by rw [List.length_reverse, e2]; exact cC
    refine ⟨c1, c5, _, _, rfl, rfl, gc5 _ _ (gc2 _ _ ec1), ec5, small200 (by rw [cA]; omega), fun c4 nc4 => ?_⟩
    generalize jc4 : upd _ c4 _ = G7
    have gc4 := upS jc4 nc4; have ec4 := upE jc4
    refine ⟨_, rfl, _, rfl, _, _, rfl, rfl, _, rfl, a, xs, rfl, SqL.of (gc4 _ _ (gc5 _ _ (gc2 _ _ (gc1 _ _ ha3)))), fun c6 nc6 => ?_⟩
    generalize jc6 : upd _ c6 _ = G8
    have gc6 := upS jc6 nc6; have ec6 := upE jc6
    have g38 := gc1.trans (gc2.trans (gc5.trans (gc4.trans gc6)))
    have k8 := kk.trans (g38.kp p)
    rw [e2] at ec6
    refine ⟨c4, c6, _, _, rfl, rfl, gc6 _ _ ec4, ec6, small200 (by rw [List.length_append, cA, cB]; omega), fun c3 nc3 mc3 => ?_⟩
    refine done G8 _ c3 (hD3.same g38) k8 nc3 mc3 (fun v hv => ?_) (by rw [List.length_append, List.length_append, cA, cB]; omega)
    rcases List.mem_append.mp hv with hv | hv
    · rcases List.mem_append.mp hv with hv | hv
      · exact oc G8 _ _ k8 v hv
      · exact oc G8 _ _ k8 v (List.mem_reverse.mp hv)
    · exact oc G8 _ _ k8 v hv
  obtain ⟨bi, hbi, hbt⟩ := (oy H3 kk).isI (K := K)
  refine ⟨_, rfl, _, _, rfl, rfl, _, rfl, ?_⟩
  refine ite2 (fun _ => ?_) (fun _ => ?_)
  · refine ⟨_, rfl, _, _, _, rfl, hbi, ?_⟩
    cases bi with
    | true =>
      refine ⟨_, rfl, ?_⟩
      refine iteT ?_
      refine ⟨_, rfl, _, rfl, _, rfl, a, xs, rfl, SqL.of ha3, fun c1 nc1 => ?_⟩
      generalize jc1 : upd _ c1 _ = G4
      have gc1 := upS jc1 nc1; have ec1 := upE jc1
      have hD4 := hD3.same gc1
      have k4 := kk.trans (gc1.kp p)
      have nc1p : c1 ≠ p := hD3.ne nc1
      refine ⟨_, rfl, 1, rfl, 2, rfl, (by show 4 ≤ sizeLine; decide), fun o5 no5 => ?_⟩
      generalize jo5 : upd _ o5 _ = G45
      have go5 := upS jo5 no5; have eo5 := upE jo5
      have hD45 := hD4.same go5
      have no5p : o5 ≠ p := hD4.ne no5
      refine ⟨_, rfl, p, 4, rfl, hD45, by decide, fun u1 H5 u10 u11 hD5 k5 => ?_⟩
      obtain ⟨j1, rfl⟩ := Int.eq_ofNat_of_zero_le u10
      have k45 := (go5.kp p).trans k5
      have k05 := k4.trans k45
      obtain ⟨dd, hdd, bdd⟩ : ∃ dd : Int, ([V.int 1, V.int (-1), V.int 2, V.int (-2)] : List V)[j1]? = some (.int dd) ∧ dd.natAbs ≤ 2 := by
        have hj4 : j1 < 4 := by omega
        match j1, hj4 with
        | 0, _ => exact ⟨1, rfl, by decide⟩
        | 1, _ => exact ⟨-1, rfl, by decide⟩
        | 2, _ => exact ⟨2, rfl, by decide⟩
        | 3, _ => exact ⟨-2, rfl, by decide⟩
      refine ⟨o5, _, (j1 : Int), .int dd, rfl, rfl, SqL.of (k5 _ _ eo5 no5p), atI_nat hdd, ?_⟩
      rcases hbt rfl with ⟨i, rfl, hi⟩ | ⟨c, rfl⟩
      · refine ⟨dd, rfl, .inl ⟨i, rfl, ?_⟩⟩
        have ec1x := k45 _ _ ec1 nc1p
        have ha5 := k05 _ _ ha nap
        refine ⟨(by show 1 ≤ sizeLine; decide), fun o3 no3 => ?_⟩
        generalize jo3 : upd _ o3 _ = G5
        have go3 := upS jo3 no3; have eo3 := upE jo3
        refine ⟨c1, o3, _, _, rfl, rfl, go3 _ _ ec1x, eo3, small200 (by rw [cA]; show k + 1 ≤ 4000; omega), fun c4 nc4 => ?_⟩
        generalize jc4 : upd _ c4 _ = G6
        have gc4 := upS jc4 nc4; have ec4 := upE jc4
        have g56 := go3.trans gc4
        have hD6 := hD5.same g56
        have nc4p : c4 ≠ p := (hD5.same go3).ne nc4
        have k6 := k05.trans (g56.kp p)
        refine ⟨_, rfl, _, rfl, _, _, rfl, rfl, _, rfl, a, xs, rfl, SqL.of (g56 _ _ ha5), fun c2 nc2 => ?_⟩
        generalize jc2 : upd _ c2 _ = G7
        have gc2 := upS jc2 nc2; have ec2 := upE jc2
        rw [e1] at ec2
        have k7 := k6.trans (gc2.kp p)
        refine ⟨c4, c2, _, _, rfl, rfl, gc2 _ _ ec4, ec2, small200 (by rw [List.length_append, cA, cB]; show k + 1 + _ ≤ 4000; omega), fun c3 nc3 mc3 => ?_⟩
        refine done G7 _ c3 (hD6.same gc2) k7 nc3 mc3 (fun v hv => ?_) (by rw [List.length_append, List.length_append, cA, cB]; show k + 1 + _ ≤ _; omega)
        rcases List.mem_append.mp hv with hv | hv
        · rcases List.mem_append.mp hv with hv | hv
          · exact oc G7 _ _ k7 v hv
          · rw [List.mem_singleton.mp hv]; exact (.int _ (by omega))
        · exact oc G7 _ _ k7 v hv
      · refine ⟨dd, rfl, .inr ⟨c, rfl, ?_⟩⟩
        have ec1x := k45 _ _ ec1 nc1p
        have ha5 := k05 _ _ ha nap
        refine ⟨(by show 1 ≤ sizeLine; decide), fun o3 no3 => ?_⟩
        generalize jo3 : upd _ o3 _ = G5
        have go3 := upS jo3 no3; have eo3 := upE jo3
        refine ⟨c1, o3, _, _, rfl, rfl, go3 _ _ ec1x, eo3, small200 (by rw [cA]; show k + 1 ≤ 4000; omega), fun c4 nc4 => ?_⟩
        generalize jc4 : upd _ c4 _ = G6
        have gc4 := upS jc4 nc4; have ec4 := upE jc4
        have g56 := go3.trans gc4
        have hD6 := hD5.same g56
        have nc4p : c4 ≠ p := (hD5.same go3).ne nc4
        have k6 := k05.trans (g56.kp p)
        refine ⟨_, rfl, _, rfl, _, _, rfl, rfl, _, rfl, a, xs, rfl, SqL.of (g56 _ _ ha5), fun c2 nc2 => ?_⟩
        generalize jc2 : upd _ c2 _ = G7
        have gc2 := upS jc2 nc2; have ec2 := upE jc2
        rw [e1] at ec2
        have k7 := k6.trans (gc2.kp p)
        refine ⟨c4, c2, _, _, rfl, rfl, gc2 _ _ ec4, ec2, small200 (by rw [List.length_append, cA, cB]; show k + 1 + _ ≤ 4000; omega), fun c3 nc3 mc3 => ?_⟩
        refine done G7 _ c3 (hD6.same gc2) k7 nc3 mc3 (fun v hv => ?_) (by rw [List.length_append, List.length_append, cA, cB]; show k + 1 + _ ≤ _; omega)
        rcases List.mem_append.mp hv with hv | hv
        · rcases List.mem_append.mp hv with hv | hv
          · exact oc G7 _ _ k7 v hv
          · rw [List.mem_singleton.mp hv]; exact (.int _ (by have := b2b c; omega))
        · exact oc G7 _ _ k7 v hv
    | false =>
      refine ⟨_, rfl, ?_⟩
      refine iteF ?_
      refine ⟨_, rfl, rfl, _, rfl, ?_⟩
      refine ite2 (fun _ => ?_) (fun _ => ?_)
      · refine ⟨_, rfl, _, rfl, _, rfl, a, xs, rfl, SqL.of ha3, fun c1 nc1 => ?_⟩
        generalize jc1 : upd _ c1 _ = G4
        have gc1 := upS jc1 nc1; have ec1 := upE jc1
        have hD4 := hD3.same gc1
        have k4 := kk.trans (gc1.kp p)
        have nc1p : c1 ≠ p := hD3.ne nc1
        refine ⟨_, rfl, _, rfl, _, _, rfl, rfl, p, _, rfl, hD4, by omega, fun u1 H5 u10 u11 hD5 k5 => ?_⟩
        have k05 := k4.trans k5
        have ec1x := k5 _ _ ec1 nc1p
        have ha5 := k05 _ _ ha nap
        refine ⟨(by show 1 ≤ sizeLine; decide), fun o3 no3 => ?_⟩
        generalize jo3 : upd _ o3 _ = G5
        have go3 := upS jo3 no3; have eo3 := upE jo3
        refine ⟨c1, o3, _, _, rfl, rfl, go3 _ _ ec1x, eo3, small200 (by rw [cA]; show k + 1 ≤ 4000; omega), fun c4 nc4 => ?_⟩
        generalize jc4 : upd _ c4 _ = G6
        have gc4 := upS jc4 nc4; have ec4 := upE jc4
        have g56 := go3.trans gc4
        have hD6 := hD5.same g56
        have nc4p : c4 ≠ p := (hD5.same go3).ne nc4
        have k6 := k05.trans (g56.kp p)
        refine ⟨_, rfl, _, rfl, _, rfl, p, 2, rfl, hD6, by decide, fun u2 H7 u20 u21 hD7 k7 => ?_⟩
        obtain ⟨j2, rfl⟩ := Int.eq_ofNat_of_zero_le u20
        have e3 : (k : Int) + (j2 : Int) = ((k + j2 : Nat) : Int) := rfl
        have k07 := k6.trans k7
        refine ⟨_, _, rfl, rfl, _, rfl, a, xs, rfl, SqL.of (k07 _ _ ha nap), fun c2 nc2 => ?_⟩
        generalize jc2 : upd _ c2 _ = G8
        have gc2 := upS jc2 nc2; have ec2 := upE jc2
        rw [e3] at ec2
        have k8 := k07.trans (gc2.kp p)
        refine ⟨c4, c2, _, _, rfl, rfl, gc2 _ _ (k7 _ _ ec4 nc4p), ec2, small200 (by rw [List.length_append, cA, cB]; show k + 1 + _ ≤ 4000; omega), fun c3 nc3 mc3 => ?_⟩
        refine done G8 _ c3 (hD7.same gc2) k8 nc3 mc3 (fun v hv => ?_) (by rw [List.length_append, List.length_append, cA, cB]; show k + 1 + _ ≤ _; omega)
        rcases List.mem_append.mp hv with hv | hv
        · rcases List.mem_append.mp hv with hv | hv
          · exact oc G8 _ _ k8 v hv
          · rw [List.mem_singleton.mp hv]; exact (.int _ (by omega))
        · exact oc G8 _ _ k8 v hv
      have fin7 : True := trivial
      refine ⟨_, rfl, rfl, _, rfl, ?_⟩
      by_cases w6 : wy = 6
      · subst w6
        refine iteT ?_
        refine ⟨_, rfl, m, p, rfl, oy H3 kk, fun bb => ?_⟩
        cases bb with
        | true =>
          refine ⟨_, rfl, ?_⟩
          refine iteT ?_
          refine ⟨_, rfl, _, rfl, _, rfl, a, xs, rfl, SqL.of ha3, fun c1 nc1 => ?_⟩
          generalize jc1 : upd _ c1 _ = G4
          have gc1 := upS jc1 nc1; have ec1 := upE jc1
          have hD4 := hD3.same gc1
          have k4 := kk.trans (gc1.kp p)
          have nc1p : c1 ≠ p := hD3.ne nc1
          have ec1x := (Kp.refl p G4) _ _ ec1 nc1p
          have ha5 := k4 _ _ ha nap
          refine ⟨(by show 1 ≤ sizeLine; decide), fun o3 no3 => ?_⟩
          generalize jo3 : upd _ o3 _ = G5
          have go3 := upS jo3 no3; have eo3 := upE jo3
          refine ⟨c1, o3, _, _, rfl, rfl, go3 _ _ ec1x, eo3, small200 (by rw [cA]; show k + 1 ≤ 4000; omega), fun c4 nc4 => ?_⟩
          generalize jc4 : upd _ c4 _ = G6
          have gc4 := upS jc4 nc4; have ec4 := upE jc4
          have g56 := go3.trans gc4
          have hD6 := hD4.same g56
          have nc4p : c4 ≠ p := (hD4.same go3).ne nc4
          have k6 := k4.trans (g56.kp p)
          refine ⟨_, rfl, _, rfl, _, _, rfl, rfl, _, rfl, a, xs, rfl, SqL.of (g56 _ _ ha5), fun c2 nc2 => ?_⟩
          generalize jc2 : upd _ c2 _ = G7
          have gc2 := upS jc2 nc2; have ec2 := upE jc2
          rw [e1] at ec2
          have k7 := k6.trans (gc2.kp p)
          refine ⟨c4, c2, _, _, rfl, rfl, gc2 _ _ ec4, ec2, small200 (by rw [List.length_append, cA, cB]; show k + 1 + _ ≤ 4000; omega), fun c3 nc3 mc3 => ?_⟩
          refine done G7 _ c3 (hD6.same gc2) k7 nc3 mc3 (fun v hv => ?_) (by rw [List.length_append, List.length_append, cA, cB]; show k + 1 + _ ≤ _; omega)
          rcases List.mem_append.mp hv with hv | hv
          · rcases List.mem_append.mp hv with hv | hv
            · exact oc G7 _ _ k7 v hv
            · rw [List.mem_singleton.mp hv]; exact (.bl _)
          · exact oc G7 _ _ k7 v hv
        | false =>
          refine ⟨_, rfl, ?_⟩
          refine iteF ?_
          refine ⟨_, rfl, _, rfl, _, rfl, a, xs, rfl, SqL.of ha3, fun c1 nc1 => ?_⟩
          generalize jc1 : upd _ c1 _ = G4
          have gc1 := upS jc1 nc1; have ec1 := upE jc1
          have hD4 := hD3.same gc1
          have k4 := kk.trans (gc1.kp p)
          have nc1p : c1 ≠ p := hD3.ne nc1
          refine ⟨_, rfl, _, rfl, p, n, rfl, hD4, n0, n1, fun w H5 hD5 k5 ow => ?_⟩
          have k05 := k4.trans k5
          have ec1x := k5 _ _ ec1 nc1p
          have ha5 := k05 _ _ ha nap
          refine ⟨(by show 1 ≤ sizeLine; decide), fun o3 no3 => ?_⟩
          generalize jo3 : upd _ o3 _ = G5
          have go3 := upS jo3 no3; have eo3 := upE jo3
          refine ⟨c1, o3, _, _, rfl, rfl, go3 _ _ ec1x, eo3, small200 (by rw [cA]; show k + 1 ≤ 4000; omega), fun c4 nc4 => ?_⟩
          generalize jc4 : upd _ c4 _ = G6
          have gc4 := upS jc4 nc4; have ec4 := upE jc4
          have g56 := go3.trans gc4
          have hD6 := hD5.same g56
          have nc4p : c4 ≠ p := (hD5.same go3).ne nc4
          have k6 := k05.trans (g56.kp p)
          refine ⟨_, rfl, _, rfl, _, rfl, p, 2, rfl, hD6, by decide, fun u2 H7 u20 u21 hD7 k7 => ?_⟩
          obtain ⟨j2, rfl⟩ := Int.eq_ofNat_of_zero_le u20
          have e3 : (k : Int) + (j2 : Int) = ((k + j2 : Nat) : Int) := rfl
          have k07 := k6.trans k7
          refine ⟨_, _, rfl, rfl, _, rfl, a, xs, rfl, SqL.of (k07 _ _ ha nap), fun c2 nc2 => ?_⟩
          generalize jc2 : upd _ c2 _ = G8
          have gc2 := upS jc2 nc2; have ec2 := upE jc2
          rw [e3] at ec2
          have k8 := k07.trans (gc2.kp p)
          refine ⟨c4, c2, _, _, rfl, rfl, gc2 _ _ (k7 _ _ ec4 nc4p), ec2, small200 (by rw [List.length_append, cA, cB]; show k + 1 + _ ≤ 4000; omega), fun c3 nc3 mc3 => ?_⟩
          refine done G8 _ c3 (hD7.same gc2) k8 nc3 mc3 (fun v hv => ?_) (by rw [List.length_append, List.length_append, cA, cB]; show k + 1 + _ ≤ _; omega)
          rcases List.mem_append.mp hv with hv | hv
          · rcases List.mem_append.mp hv with hv | hv
            · exact oc G8 _ _ k8 v hv
            · rw [List.mem_singleton.mp hv]; exact ((ow.kp ((g56.kp p).trans (k7.trans (gc2.kp p)))).mono (by omega))
          · exact oc G8 _ _ k8 v hv
      · rw [decide_eq_false (show ¬ V.int wy = V.int 6 from fun e => w6 (V.int.inj e))]
        refine iteF ?_
        refine ⟨_, rfl, _, rfl, _, rfl, a, xs, rfl, SqL.of ha3, fun c1 nc1 => ?_⟩
        generalize jc1 : upd _ c1 _ = G4
        have gc1 := upS jc1 nc1; have ec1 := upE jc1
        have hD4 := hD3.same gc1
        have k4 := kk.trans (gc1.kp p)
        have nc1p : c1 ≠ p := hD3.ne nc1
        refine ⟨_, rfl, _, rfl, p, n, rfl, hD4, n0, n1, fun w H5 hD5 k5 ow => ?_⟩
        have k05 := k4.trans k5
        have ec1x := k5 _ _ ec1 nc1p
        have ha5 := k05 _ _ ha nap
        refine ⟨(by show 1 ≤ sizeLine; decide), fun o3 no3 => ?_⟩
        generalize jo3 : upd _ o3 _ = G5
        have go3 := upS jo3 no3; have eo3 := upE jo3
        refine ⟨c1, o3, _, _, rfl, rfl, go3 _ _ ec1x, eo3, small200 (by rw [cA]; show k + 1 ≤ 4000; omega), fun c4 nc4 => ?_⟩
        generalize jc4 : upd _ c4 _ = G6
        have gc4 := upS jc4 nc4; have ec4 := upE jc4
        have g56 := go3.trans gc4
        have hD6 := hD5.same g56
        have nc4p : c4 ≠ p := (hD5.same go3).ne nc4
        have k6 := k05.trans (g56.kp p)
        refine ⟨_, rfl, _, rfl, _, rfl, p, 2, rfl, hD6, by decide, fun u2 H7 u20 u21 hD7 k7 => ?_⟩
        obtain ⟨j2, rfl⟩ := Int.eq_ofNat_of_zero_le u20
        have e3 : (k : Int) + (j2 : Int) = ((k + j2 : Nat) : Int) := rfl
        have k07 := k6.trans k7
        refine ⟨_, _, rfl, rfl, _, rfl, a, xs, rfl, SqL.of (k07 _ _ ha nap), fun c2 nc2 => ?_⟩
        generalize jc2 : upd _ c2 _ = G8
        have gc2 := upS jc2 nc2; have ec2 := upE jc2
        rw [e3] at ec2
        have k8 := k07.trans (gc2.kp p)
        refine ⟨c4, c2, _, _, rfl, rfl, gc2 _ _ (k7 _ _ ec4 nc4p), ec2, small200 (by rw [List.length_append, cA, cB]; show k + 1 + _ ≤ 4000; omega), fun c3 nc3 mc3 => ?_⟩
        refine done G8 _ c3 (hD7.same gc2) k8 nc3 mc3 (fun v hv => ?_) (by rw [List.length_append, List.length_append, cA, cB]; show k + 1 + _ ≤ _; omega)
        rcases List.mem_append.mp hv with hv | hv
        · rcases List.mem_append.mp hv with hv | hv
          · exact oc G8 _ _ k8 v hv
          · rw [List.mem_singleton.mp hv]; exact ((ow.kp ((g56.kp p).trans (k7.trans (gc2.kp p)))).mono (by omega))
        · exact oc G8 _ _ k8 v hv
  refine ⟨_, rfl, rfl, _, rfl, ?_⟩
  refine ite2 (fun _ => ?_) (fun _ => ?_)
  · refine ⟨_, rfl, _, rfl, _, rfl, a, xs, rfl, SqL.of ha3, fun c1 nc1 => ?_⟩
    generalize jc1 : upd _ c1 _ = G4
    have gc1 := upS jc1 nc1; have ec1 := upE jc1
    have hD4 := hD3.same gc1
    have k4 := kk.trans (gc1.kp p)
    have nc1p : c1 ≠ p := hD3.ne nc1
    refine ⟨_, rfl, _, rfl, _, _, rfl, rfl, p, _, rfl, hD4, by omega, fun u1 H5 u10 u11 hD5 k5 => ?_⟩
    have k05 := k4.trans k5
    have ec1x := k5 _ _ ec1 nc1p
    have ha5 := k05 _ _ ha nap
    refine ⟨(by show 1 ≤ sizeLine; decide), fun o3 no3 => ?_⟩
    generalize jo3 : upd _ o3 _ = G5
    have go3 := upS jo3 no3; have eo3 := upE jo3
    refine ⟨c1, o3, _, _, rfl, rfl, go3 _ _ ec1x, eo3, small200 (by rw [cA]; show k + 1 ≤ 4000; omega), fun c4 nc4 => ?_⟩
    generalize jc4 : upd _ c4 _ = G6
    have gc4 := upS jc4 nc4; have ec4 := upE jc4
    have g56 := go3.trans gc4
    have hD6 := hD5.same g56
    have nc4p : c4 ≠ p := (hD5.same go3).ne nc4
    have k6 := k05.trans (g56.kp p)
    refine ⟨_, rfl, _, rfl, _, rfl, p, 2, rfl, hD6, by decide, fun u2 H7 u20 u21 hD7 k7 => ?_⟩
    obtain ⟨j2, rfl⟩ := Int.eq_ofNat_of_zero_le u20
    have e3 : (k : Int) + (j2 : Int) = ((k + j2 : Nat) : Int) := rfl
    have k07 := k6.trans k7
    refine ⟨_, _, rfl, rfl, _, rfl, a, xs, rfl, SqL.of (k07 _ _ ha nap), fun c2 nc2 => ?_⟩
    generalize jc2 : upd _ c2 _ = G8
    have gc2 := upS jc2 nc2; have ec2 := upE jc2
    rw [e3] at ec2
    have k8 := k07.trans (gc2.kp p)
    refine ⟨c4, c2, _, _, rfl, rfl, gc2 _ _ (k7 _ _ ec4 nc4p), ec2, small200 (by rw [List.length_append, cA, cB]; show k + 1 + _ ≤ 4000; omega), fun c3 nc3 mc3 => ?_⟩
    refine done G8 _ c3 (hD7.same gc2) k8 nc3 mc3 (fun v hv => ?_) (by rw [List.length_append, List.length_append, cA, cB]; show k + 1 + _ ≤ _; omega)
    rcases List.mem_append.mp hv with hv | hv
    · rcases List.mem_append.mp hv with hv | hv
      · exact oc G8 _ _ k8 v hv
      · rw [List.mem_singleton.mp hv]; exact (.int _ (by omega))
    · exact oc G8 _ _ k8 v hv
  have fin7 : True := trivial
  refine ⟨_, rfl, rfl, _, rfl, ?_⟩
  by_cases w6 : wy = 6
  · subst w6
    refine iteT ?_
    refine ⟨_, rfl, m, p, rfl, oy H3 kk, fun bb => ?_⟩
    cases bb with
    | true =>
      refine ⟨_, rfl, ?_⟩
      refine iteT ?_
      refine ⟨_, rfl, _, rfl, _, rfl, a, xs, rfl, SqL.of ha3, fun c1 nc1 => ?_⟩
      generalize jc1 : upd _ c1 _ = G4
      have gc1 := upS jc1 nc1; have ec1 := upE jc1
      have hD4 := hD3.same gc1
      have k4 := kk.trans (gc1.kp p)
      have nc1p : c1 ≠ p := hD3.ne nc1
      have ec1x := (Kp.refl p G4) _ _ ec1 nc1p
      have ha5 := k4 _ _ ha nap
      refine ⟨(by show 1 ≤ sizeLine; decide), fun o3 no3 => ?_⟩
      generalize jo3 : upd _ o3 _ = G5
      have go3 := upS jo3 no3; have eo3 := upE jo3
      refine ⟨c1, o3, _, _, rfl, rfl, go3 _ _ ec1x, eo3, small200 (by rw [cA]; show k + 1 ≤ 4000; omega), fun c4 nc4 => ?_⟩
      generalize jc4 : upd _ c4 _ = G6
      have gc4 := upS jc4 nc4; have ec4 := upE jc4
      have g56 := go3.trans gc4
      have hD6 := hD4.same g56
      have nc4p : c4 ≠ p := (hD4.same go3).ne nc4
      have k6 := k4.trans (g56.kp p)
      refine ⟨_, rfl, _, rfl, _, _, rfl, rfl, _, rfl, a, xs, rfl, SqL.of (g56 _ _ ha5), fun c2 nc2 => ?_⟩
      generalize jc2 : upd _ c2 _ = G7
      have gc2 := upS jc2 nc2; have ec2 := upE jc2
      rw [e1] at ec2
      have k7 := k6.trans (gc2.kp p)
      refine ⟨c4, c2, _, _, rfl, rfl, gc2 _ _ ec4, ec2, small200 (by rw [List.length_append, cA, cB]; show k + 1 + _ ≤ 4000; omega), fun c3 nc3 mc3 => ?_⟩
      refine done G7 _ c3 (hD6.same gc2) k7 nc3 mc3 (fun v hv => ?_) (by rw [List.length_append, List.length_append, cA, cB]; show k + 1 + _ ≤ _; omega)
      rcases List.mem_append.mp hv with hv | hv
      · rcases List.mem_append.mp hv with hv | hv
        · exact oc G7 _ _ k7 v hv
        · rw [List.mem_singleton.mp hv]; exact (.bl _)
      · exact oc G7 _ _ k7 v hv
    | false =>
      refine ⟨_, rfl, ?_⟩
      refine iteF ?_
      refine ⟨_, rfl, _, rfl, _, rfl, a, xs, rfl, SqL.of ha3, fun c1 nc1 => ?_⟩
      generalize jc1 : upd _ c1 _ = G4
      have gc1 := upS jc1 nc1; have ec1 := upE jc1
      have hD4 := hD3.same gc1
      have k4 := kk.trans (gc1.kp p)
      have nc1p : c1 ≠ p := hD3.ne nc1
      refine ⟨_, rfl, _, rfl, p, n, rfl, hD4, n0, n1, fun w H5 hD5 k5 ow => ?_⟩
      have k05 := k4.trans k5
      have ec1x := k5 _ _ ec1 nc1p
      have ha5 := k05 _ _ ha nap
      refine ⟨(by show 1 ≤ sizeLine; decide), fun o3 no3 => ?_⟩
      generalize jo3 : upd _ o3 _ = G5
      have go3 := upS jo3 no3; have eo3 := upE jo3
      refine ⟨c1, o3, _, _, rfl, rfl, go3 _ _ ec1x, eo3, small200 (by rw [cA]; show k + 1 ≤ 4000; omega), fun c4 nc4 => ?_⟩
      generalize jc4 : upd _ c4 _ = G6
      have gc4 := upS jc4 nc4; have ec4 := upE jc4
      have g56 := go3.trans gc4
      have hD6 := hD5.same g56
      have nc4p : c4 ≠ p := (hD5.same go3).ne nc4
      have k6 := k05.trans (g56.kp p)
      refine ⟨_, rfl, _, rfl, _, rfl, p, 2, rfl, hD6, by decide, fun u2 H7 u20 u21 hD7 k7 => ?_⟩
      obtain ⟨j2, rfl⟩ := Int.eq_ofNat_of_zero_le u20
      have e3 : (k : Int) + (j2 : Int) = ((k + j2 : Nat) : Int) := rfl
      have k07 := k6.trans k7
      refine ⟨_, _, rfl, rfl, _, rfl, a, xs, rfl, SqL.of (k07 _ _ ha nap), fun c2 nc2 => ?_⟩
      generalize jc2 : upd _ c2 _ = G8
      have gc2 := upS jc2 nc2; have ec2 := upE jc2
      rw [e3] at ec2
      have k8 := k07.trans (gc2.kp p)
      refine ⟨c4, c2, _, _, rfl, rfl, gc2 _ _ (k7 _ _ ec4 nc4p), ec2, small200 (by rw [List.length_append, cA, cB]; show k + 1 + _ ≤ 4000; omega), fun c3 nc3 mc3 => ?_⟩
      refine done G8 _ c3 (hD7.same gc2) k8 nc3 mc3 (fun v hv => ?_) (by rw [List.length_append, List.length_append, cA, cB]; show k + 1 + _ ≤ _; omega)
      rcases List.mem_append.mp hv with hv | hv
      · rcases List.mem_append.mp hv with hv | hv
        · exact oc G8 _ _ k8 v hv
        · rw [List.mem_singleton.mp hv]; exact ((ow.kp ((g56.kp p).trans (k7.trans (gc2.kp p)))).mono (by omega))
      · exact oc G8 _ _ k8 v hv
  · rw [decide_eq_false (show ¬ V.int wy = V.int 6 from fun e => w6 (V.int.inj e))]
    refine iteF ?_
    refine ⟨_, rfl, _, rfl, _, rfl, a, xs, rfl, SqL.of ha3, fun c1 nc1 => ?_⟩
    generalize jc1 : upd _ c1 _ = G4
    have gc1 := upS jc1 nc1; have ec1 := upE jc1
    have hD4 := hD3.same gc1
    have k4 := kk.trans (gc1.kp p)
    have nc1p : c1 ≠ p := hD3.ne nc1
    refine ⟨_, rfl, _, rfl, p, n, rfl, hD4, n0, n1, fun w H5 hD5 k5 ow => ?_⟩
    have k05 := k4.trans k5
    have ec1x := k5 _ _ ec1 nc1p
    have ha5 := k05 _ _ ha nap
    refine ⟨(by show 1 ≤ sizeLine; decide), fun o3 no3 => ?_⟩
    generalize jo3 : upd _ o3 _ = G5
    have go3 := upS jo3 no3; have eo3 := upE jo3
    refine ⟨c1, o3, _, _, rfl, rfl, go3 _ _ ec1x, eo3, small200 (by rw [cA]; show k + 1 ≤ 4000; omega), fun c4 nc4 => ?_⟩
    generalize jc4 : upd _ c4 _ = G6
    have gc4 := upS jc4 nc4; have ec4 := upE jc4
    have g56 := go3.trans gc4
    have hD6 := hD5.same g56
    have nc4p : c4 ≠ p := (hD5.same go3).ne nc4
    have k6 := k05.trans (g56.kp p)
    refine ⟨_, rfl, _, rfl, _, rfl, p, 2, rfl, hD6, by decide, fun u2 H7 u20 u21 hD7 k7 => ?_⟩
    obtain ⟨j2, rfl⟩ := Int.eq_ofNat_of_zero_le u20
    have e3 : (k : Int) + (j2 : Int) = ((k + j2 : Nat) : Int) := rfl
    have k07 := k6.trans k7
    refine ⟨_, _, rfl, rfl, _, rfl, a, xs, rfl, SqL.of (k07 _ _ ha nap), fun c2 nc2 => ?_⟩
    generalize jc2 : upd _ c2 _ = G8
    have gc2 := upS jc2 nc2; have ec2 := upE jc2
    rw [e3] at ec2
    have k8 := k07.trans (gc2.kp p)
    refine ⟨c4, c2, _, _, rfl, rfl, gc2 _ _ (k7 _ _ ec4 nc4p), ec2, small200 (by rw [List.length_append, cA, cB]; show k + 1 + _ ≤ 4000; omega), fun c3 nc3 mc3 => ?_⟩
    refine done G8 _ c3 (hD7.same gc2) k8 nc3 mc3 (fun v hv => ?_) (by rw [List.length_append, List.length_append, cA, cB]; show k + 1 + _ ≤ _; omega)
    rcases List.mem_append.mp hv with hv | hv
    · rcases List.mem_append.mp hv with hv | hv
      · exact oc G8 _ _ k8 v hv
      · rw [List.mem_singleton.mp hv]; exact ((ow.kp ((g56.kp p).trans (k7.trans (gc2.kp p)))).mono (by omega))
    · exact oc G8 _ _ k8 v hv
end
end Lv
set_option Elab.async false
set_option linter.all false
set_option maxRecDepth 100000
set_option maxHeartbeats 4000000
namespace L2
open PySem
def NoLet (K : PySem.W.Frag) (H : Hp) (x : V) : Prop := (∃ y : Str, x = .str y ∧ y.length ≤ 4000 ∧ letB y = false) ∨ (∀ H', Same H H' → IsI K H' x "str" false) ∨ VEat H x
theorem NoLet.same {K : PySem.W.Frag} {H H' : Hp} {x : V} (b : NoLet K H x) (s : Same H H') : NoLet K H' x := by
  rcases b with h | h | ⟨a, h1, h2⟩
  · exact .inl h
  · exact .inr (.inl fun H2 s2 => h H2 (s.trans s2))
  · exact .inr (.inr ⟨a, h1, s _ _ h2⟩)
/-- the same, also when the thing at p changes -/
def NoLetP (K : PySem.W.Frag) (p : Addr) (H : Hp) (x : V) : Prop := (∃ y : Str, x = .str y ∧ y.length ≤ 4000 ∧ letB y = false) ∨ (∀ H', Kp p H H' → IsI K H' x "str" false) ∨ ∃ a, x = .ref a ∧ a ≠ p ∧ H a = some (.ext (ExcP "ValueError" a))
theorem NoLetP.kp {K : PySem.W.Frag} {p : Addr} {H H' : Hp} {x : V} (b : NoLetP K p H x) (s : Kp p H H') : NoLetP K p H' x := by
  rcases b with h | h | ⟨a, h1, h2, h3⟩
  · exact .inl h
  · exact .inr (.inl fun H2 s2 => h H2 (s.trans s2))
  · exact .inr (.inr ⟨a, h1, h2, s _ _ h3 h2⟩)
def spArB (K : PySem.W.Frag) (P1 P2 C : Addr) : Sp := fun vs H _ E => ∃ (z x : V), vs = [z, x] ∧ H P1 = some (.ext (TabP P1)) ∧ H P2 = some (.ext (TabP P2)) ∧ NoLet K H x ∧ ∀ H', Same H H' → E (.ref C) none H'
def spShB (K : PySem.W.Frag) (P1 P2 C : Addr) : Sp := fun vs H _ E => ∃ (z x t : V), vs = [z, x, t] ∧ H P1 = some (.ext (TabP P1)) ∧ H P2 = some (.ext (TabP P2)) ∧ NoLet K H x ∧ ∀ H', Same H H' → E (.ref C) none H'
def spRef40 (K : PySem.W.Frag) (P1 P2 : Addr) : Sp := fun vs H Q _ => ∃ (n : Int) (z x t : V), vs = [.int n, z, x, t] ∧ (n = 0 ∨ n = 1) ∧ H P1 = some (.ext (TabP P1)) ∧ H P2 = some (.ext (TabP P2)) ∧ NoLet K H x ∧ ∀ H', Same H H' → Q (.bl true) H'
def spNoLets (K : PySem.W.Frag) : Sp := fun vs H Q _ => ∃ (p : Addr) (l : Str), vs = [.ref p, .str l] ∧ DrawsAt H p ∧ LetOk l ∧ ∀ (m : Addr) (xs : List V) (H' : Hp), H' m = some (.lst xs) → m ≠ p → xs.length ≤ 40 → (∀ x ∈ xs, NoLetP K p H' x) → DrawsAt H' p → Kp p H H' → Q (.ref m) H'
end L2
set_option Elab.async false
set_option linter.all false
set_option maxRecDepth 100000
set_option maxHeartbeats 4000000
namespace L2
open PySem PySem.Spec PyProof.Rows
/-- all that lies in a heap, but one thing -/
def allBut (h : Heap) (L : Addr) : List (Addr × Obj) := (List.range h.objs.size).filterMap fun b => if b = L then none else (h.get? b).map fun o => (b, o)
theorem nothing (b : Addr) : (({} : Heap)).get? b = none := by
  cases e : (({} : Heap)).get? b with
  | none => rfl
  | some o => exact absurd (Heap.lt_size e) (Nat.not_lt_zero _)
def argMin (zs : List Str) (i : Nat) : Prop := ∀ (j : Nat) (z z' : Str), zs[i]? = some z → zs[j]? = some z' → z.length ≤ z'.length ∧ (j < i → z.length < z'.length)
def argMax (zs : List Str) (i : Nat) : Prop := ∀ (j : Nat) (z z' : Str), zs[i]? = some z → zs[j]? = some z' → z'.length ≤ z.length ∧ (j < i → z'.length < z.length)
def rMinLen (K : PySem.W.Frag) : List V → Hp → VK → Prop := fun vs H Q => ∃ (a : Addr) (zs : List Str), vs = [V.ref a] ∧ SqL K H a (zs.map V.str) ∧ zs ≠ [] ∧ (∀ z ∈ zs, z.length ≤ sizeLine) ∧ ∀ (i : Nat) (z : Str), zs[i]? = some z → argMin zs i → Q (.str z) H
def rMaxLen (K : PySem.W.Frag) : List V → Hp → VK → Prop := fun vs H Q => ∃ (a : Addr) (zs : List Str), vs = [V.ref a] ∧ SqL K H a (zs.map V.str) ∧ zs ≠ [] ∧ (∀ z ∈ zs, z.length ≤ sizeLine) ∧ ∀ (i : Nat) (z : Str), zs[i]? = some z → argMax zs i → Q (.str z) H
def tMinLen (K : PySem.W.Frag) (t : TA) : TE := fun σ H Q => t σ H fun vs H1 => rMinLen K vs H1 Q
end L2
set_option Elab.async false
set_option linter.all false
set_option maxRecDepth 100000
set_option maxHeartbeats 4000000
namespace L2
open PySem PySem.Spec PyProof.Rows
section
variable {prog : Program} {w : World} {A : Around} {E : Value → Shared → Prop} {s : Shared}
/-- the five parts of a walk by zip lie apart -/
structure Apart5 (z ti to_ : Addr) (f1 f2 : List Addr) (i1 i2 : Addr) : Prop where
  a1 : ti ≠ z
  a2 : to_ ≠ z
  a3 : ti ≠ to_
  z1 : z ∉ f1
  z2 : z ∉ f2
  o1 : to_ ∉ f1
  o2 : to_ ∉ f2
  x12 : i1 ∉ f2
  x21 : i2 ∉ f1
  m1 : i1 ∈ f1
  m2 : i2 ∈ f2
  t1 : ti ≠ i1
  t2 : ti ≠ i2
abbrev zs1 (h : Heap) (x : Str) (t : Tok) : Heap := h.push { cls := .type (strIterType x), data := .fields #[.str x t, .int 0 0] }
abbrev zs2 (h : Heap) (x : Str) (t : Tok) (l : Addr) : Heap := (zs1 h x t).push { cls := .type "list_iterator", data := .fields #[.ref l, .int 0 0] }
abbrev zs3 (h : Heap) (x : Str) (t : Tok) (l : Addr) : Heap := (zs2 h x t l).push { cls := .type "tuple", data := .seq #[.ref h.objs.size, .ref (zs1 h x t).objs.size] }
abbrev zs4 (h : Heap) (x : Str) (t : Tok) (l : Addr) : Heap := (zs3 h x t l).push { cls := .type "tuple", data := .seq #[.none, .none] }
abbrev zs5 (h : Heap) (x : Str) (t : Tok) (l : Addr) : Heap := (zs4 h x t l).push { cls := .type "zip", data := .fields #[.none, .bool false, .bool false, .ref (zs2 h x t l).objs.size, .ref (zs3 h x t l).objs.size] }
end
end L2
set_option Elab.async false
set_option linter.all false
set_option maxRecDepth 100000
set_option maxHeartbeats 4000000
namespace L2
open PySem PySem.Spec PyProof.Rows
def Itzs (K : PySem.W.Frag) (x : Str) (b : Addr) : It :=
  ⟨fun i H => ∃ (ys : List V) (c : Nat) (y : V), SqL K H b ys ∧ x.cps.toList[i]? = some c ∧ ys[i]? = some y,
    fun i H v H' => ∃ (T : Addr) (c : Nat) (y : V), v = .ref T ∧ H T = none ∧ H' = upd H T (.tup [.str (sg c), y]) ∧ x.cps.toList[i]? = some c ∧ ∀ ys, SqL K H b ys → ys[i]? = some y,
    fun i H => ∃ ys : List V, SqL K H b ys ∧ (x.cps.toList.length = i ∨ (i < x.cps.toList.length ∧ ys.length = i))⟩
def iZipS (K : PySem.W.Frag) (ta : TA) : TI := fun σ H R => ta σ H fun vs H1 => ∃ (x : Str) (b : Addr) (ys : List V), vs = [.str x, .ref b] ∧ SqL K H1 b ys ∧ R (Itzs K x b) H1
end L2
set_option Elab.async false
set_option linter.all false
set_option maxRecDepth 100000
set_option maxHeartbeats 4000000
namespace L2
open PySem
/-- the first of the shortest -/
def fm (zs : List (List Nat)) : List Nat := (zs.find? fun z => zs.all fun y => decide (z.length ≤ y.length)).getD []
def comb (ls : List Nat) (rs : List (List Nat × Int)) : List Nat × Int :=
  (fm (List.zipWith (fun c r => c :: r.1) ls rs), ((rs.filter fun r => decide (r.1.length + 1 = (fm (List.zipWith (fun c r => c :: r.1) ls rs)).length)).map (·.2)).sum)
def SFf (ls : List Nat) : Nat → List Nat → List Nat × Int
  | 0, _ => ([], 0)
  | n + 1, xs => match ls.filter fun c => !decide (c ∈ xs) with
    | m :: ms => ([m], ((ms.length + 1 : Nat) : Int))
    | [] => comb ls (ls.map fun c => SFf ls n ((aft c xs).getD []))
def SF (ls xs : List Nat) : List Nat × Int := SFf ls (xs.length + 1) xs
theorem SFf_fuel (ls : List Nat) : ∀ (n : Nat) (xs : List Nat), xs.length + 1 ≤ n → SFf ls n xs = SFf ls (xs.length + 1) xs := by
  have key : ∀ (N : Nat) (n m : Nat) (xs : List Nat), xs.length ≤ N → xs.length + 1 ≤ n → xs.length + 1 ≤ m → SFf ls n xs = SFf ls m xs := by
    intro N
    induction N with
    | zero =>
      intro n m xs h0 hn hm
      obtain ⟨n, rfl⟩ : ∃ k, n = k + 1 := ⟨n - 1, by omega⟩
      obtain ⟨m, rfl⟩ : ∃ k, m = k + 1 := ⟨m - 1, by omega⟩
      have : xs = [] := List.eq_nil_of_length_eq_zero (by omega)
      subst this
      unfold SFf
      cases hf : ls.filter fun c => !decide (c ∈ ([] : List Nat)) with
      | cons a as => rfl
      | nil =>
        have hls : ls = [] := by
          cases ls with
          | nil => rfl
          | cons a as => simp at hf
        subst hls
        rfl
    | succ N ih =>
      intro n m xs h0 hn hm
      obtain ⟨n, rfl⟩ : ∃ k, n = k + 1 := ⟨n - 1, by omega⟩
      obtain ⟨m, rfl⟩ : ∃ k, m = k + 1 := ⟨m - 1, by omega⟩
      unfold SFf
      cases hf : ls.filter fun c => !decide (c ∈ xs) with
      | cons a as => rfl
      | nil =>
        have hall : ∀ c ∈ ls, c ∈ xs := fun c hc => by
          have := List.filter_eq_nil_iff.mp hf c hc
          simpa using this
        have : (ls.map fun c => SFf ls n ((aft c xs).getD [])) = ls.map fun c => SFf ls m ((aft c xs).getD []) := by
          refine List.map_congr_left fun c hc => ?_
          cases ha : aft c xs with
          | none => exact absurd (hall c hc) (aft_none.mp ha)
          | some r =>
            have := aft_len ha
            exact ih n m r (by omega) (by omega) (by omega)
        show comb ls _ = comb ls _
        rw [this]
  intro n xs h
  exact key xs.length n (xs.length + 1) xs (Nat.le_refl _) h (Nat.le_refl _)
theorem SF_eq (ls xs : List Nat) : SF ls xs = match ls.filter fun c => !decide (c ∈ xs) with
    | m :: ms => ([m], ((ms.length + 1 : Nat) : Int))
    | [] => comb ls (ls.map fun c => SF ls ((aft c xs).getD [])) := by
  show SFf ls (xs.length + 1) xs = _
  unfold SFf
  cases hf : ls.filter fun c => !decide (c ∈ xs) with
  | cons a as => rfl
  | nil =>
    have hall : ∀ c ∈ ls, c ∈ xs := fun c hc => by
      have := List.filter_eq_nil_iff.mp hf c hc
      simpa using this
    have : (ls.map fun c => SFf ls xs.length ((aft c xs).getD [])) = ls.map fun c => SF ls ((aft c xs).getD []) := by
      refine List.map_congr_left fun c hc => ?_
      cases ha : aft c xs with
      | none => exact absurd (hall c hc) (aft_none.mp ha)
      | some r =>
        have := aft_len ha
        exact SFf_fuel ls _ r (by show r.length + 1 ≤ xs.length; omega)
    show comb ls _ = comb ls _
    rw [this]
/-- some one is as short as all -/
theorem min_ex : ∀ zs : List (List Nat), zs ≠ [] → ∃ z ∈ zs, ∀ y ∈ zs, z.length ≤ y.length
  | [], h => absurd rfl h
  | [z], _ => ⟨z, List.mem_cons_self, fun y hy => by rw [List.mem_singleton.mp hy]; exact Nat.le_refl _⟩
  | z :: w :: zs, _ => by
    obtain ⟨m, hm, hl⟩ := min_ex (w :: zs) (by simp)
    by_cases h : z.length ≤ m.length
    · refine ⟨z, List.mem_cons_self, fun y hy => ?_⟩
      rcases List.mem_cons.mp hy with rfl | hy
      · exact Nat.le_refl _
      · exact Nat.le_trans h (hl y hy)
    · refine ⟨m, List.mem_cons_of_mem _ hm, fun y hy => ?_⟩
      rcases List.mem_cons.mp hy with rfl | hy
      · omega
      · exact hl y hy
theorem fm_mem {zs : List (List Nat)} (h : zs ≠ []) : fm zs ∈ zs ∧ ∀ y ∈ zs, (fm zs).length ≤ y.length := by
  unfold fm
  cases e : zs.find? fun z => zs.all fun y => decide (z.length ≤ y.length) with
  | none =>
    obtain ⟨z, hz, hl⟩ := min_ex zs h
    have := List.find?_eq_none.mp e z hz
    exact absurd (List.all_eq_true.mpr fun y hy => decide_eq_true (hl y hy)) this
  | some z =>
    refine ⟨List.mem_of_find?_eq_some e, fun y hy => ?_⟩
    have := List.find?_some e
    exact of_decide_eq_true (List.all_eq_true.mp this y hy)
def Tup2 (H : Hp) (r : Addr) (ls xs : List Nat) : Prop := ∃ w : Str, H r = some (.tup [.str w, .int (SF ls xs).2]) ∧ w.cps.toList = (SF ls xs).1
theorem Tup2.same {H H' : Hp} {r : Addr} {ls xs : List Nat} (h : Tup2 H r ls xs) (s : Same H H') : Tup2 H' r ls xs := let ⟨w, a, b⟩ := h; ⟨w, s _ _ a, b⟩
theorem Tup2.kp {H H' : Hp} {r p : Addr} {ls xs : List Nat} (h : Tup2 H r ls xs) (s : Kp p H H') (n : r ≠ p) : Tup2 H' r ls xs := let ⟨w, a, b⟩ := h; ⟨w, s _ _ a n, b⟩
def spShWith : Sp := fun vs H Q _ => ∃ (d m : Addr) (l : Str) (xs : List Nat) (p : Nat) (ts : List Addr), vs = [.ref d, .str l, .ref m] ∧ H d = some (.dK (entK (xs.drop p) p)) ∧ LetOk l ∧ xs.length ≤ 200 ∧ H m = some (.lst (ts.map V.ref)) ∧ ts.length = xs.length + 1 ∧ (∀ (i : Nat) (r : Addr), p < i → ts[i]? = some r → Tup2 H r l.cps.toList (xs.drop i)) ∧
  ∀ (t : Addr) (H' : Hp), Same H H' → H t = none → Tup2 H' t l.cps.toList (xs.drop p) → Q (.ref t) H'
def spShFrom (K : PySem.W.Frag) (P1 P2 : Addr) : Sp := fun vs H Q _ => ∃ (z l : Str), vs = [.str z, .str l] ∧ z.length ≤ 200 ∧ LetOk l ∧ H P1 = some (.ext (TabP P1)) ∧ H P2 = some (.ext (TabP P2)) ∧
  ∀ (m : Addr) (ts : List Addr) (H' : Hp), Same H H' → H' m = some (.lst (ts.map V.ref)) → ts.length = z.cps.toList.length + 1 → (∀ (i : Nat) (r : Addr), ts[i]? = some r → Tup2 H' r l.cps.toList (z.cps.toList.drop i)) → Q (.ref m) H'
def spShNot (K : PySem.W.Frag) (P1 P2 : Addr) : Sp := fun vs H Q _ => ∃ (z l : Str), vs = [.str z, .str l] ∧ z.length ≤ 200 ∧ LetOk l ∧ H P1 = some (.ext (TabP P1)) ∧ H P2 = some (.ext (TabP P2)) ∧ ∀ (w : Str) (H' : Hp), Same H H' → w.cps.toList = (SF l.cps.toList z.cps.toList).1 → Q (.str w) H'
def spManySh (K : PySem.W.Frag) (P1 P2 : Addr) : Sp := fun vs H Q _ => ∃ (z l : Str), vs = [.str z, .str l] ∧ z.length ≤ 200 ∧ LetOk l ∧ H P1 = some (.ext (TabP P1)) ∧ H P2 = some (.ext (TabP P2)) ∧ ∀ (H' : Hp), Same H H' → Q (.int (SF l.cps.toList z.cps.toList).2) H'
def spAllLeft (K : PySem.W.Frag) (P1 P2 : Addr) : Sp := fun vs H Q _ => ∃ (z l : Str), vs = [.str z, .str l] ∧ z.length ≤ 200 ∧ LetOk l ∧ H P1 = some (.ext (TabP P1)) ∧ H P2 = some (.ext (TabP P2)) ∧ ∀ (H' : Hp), Same H H' → Q (.int (((SF l.cps.toList z.cps.toList).1.length : Int) - 1)) H'
end L2
set_option Elab.async false
set_option linter.all false
namespace L2
open PySem
theorem zz_map (f : Nat → List Nat) (l : List Nat) : List.zipWith (fun c d => c :: f d) l l = l.map fun c => c :: f c := by
  induction l with
  | nil => rfl
  | cons a as ih => rw [List.zipWith_cons_cons, ih]; rfl
theorem SF_step {ls : List Nat} (hls : ls ≠ []) (xs : List Nat) (hf : (ls.filter fun c => !decide (c ∈ xs)) = []) :
    (∃ c ∈ ls, (SF ls xs).1 = c :: (SF ls ((aft c xs).getD [])).1) ∧ ∀ c ∈ ls, (SF ls xs).1.length ≤ (SF ls ((aft c xs).getD [])).1.length + 1 := by
  have e0 : (SF ls xs).1 = fm (ls.map fun c => c :: (SF ls ((aft c xs).getD [])).1) := by
    rw [SF_eq, hf]
    show fm _ = _
    rw [List.zipWith_map_right, zz_map fun c => (SF ls ((aft c xs).getD [])).1]
  obtain ⟨m, hm⟩ := fm_mem (zs := ls.map fun c => c :: (SF ls ((aft c xs).getD [])).1) (by
    cases ls with
    | nil => exact absurd rfl hls
    | cons a as => simp)
  rw [← e0] at m hm
  refine ⟨?_, fun c hc => ?_⟩
  · obtain ⟨c, hc, e⟩ := List.mem_map.mp m
    exact ⟨c, hc, e.symm⟩
  · have := hm _ (List.mem_map.mpr ⟨c, hc, rfl⟩)
    rwa [List.length_cons] at this
theorem cons_aft {c : Nat} {ws : List Nat} : ∀ {xs r : List Nat}, aft c xs = some r → ((c :: ws).Sublist xs ↔ ws.Sublist r) := by
  intro xs
  induction xs with
  | nil => intro r h; simp [aft] at h
  | cons x xs ih =>
    intro r h
    unfold aft at h
    by_cases hx : x = c
    · subst hx
      simp at h
      subst h
      exact ⟨fun s => List.cons_sublist_cons.mp s, fun s => s.cons_cons _⟩
    · rw [if_neg (by first | exact hx | (intro e; exact hx e.symm) | (simp; exact hx))] at h
      rw [← ih h]
      constructor
      · intro s
        cases s with
        | cons _ s => exact s
        | cons_cons _ s => exact absurd rfl hx
      · exact fun s => s.cons _
theorem SF_is {ls : List Nat} (hls : ls ≠ []) : ∀ (N : Nat) (xs : List Nat), xs.length ≤ N → ¬ (SF ls xs).1.Sublist xs ∧ ∀ ws : List Nat, (∀ c ∈ ws, c ∈ ls) → ws.length < (SF ls xs).1.length → ws.Sublist xs := by
  intro N
  induction N with
  | zero =>
    intro xs h0
    have : xs = [] := List.eq_nil_of_length_eq_zero (by omega)
    subst this
    rw [SF_eq]
    cases hf : ls.filter fun c => !decide (c ∈ ([] : List Nat)) with
    | cons a as =>
      refine ⟨(fun h => by cases h), fun ws _ hl => ?_⟩
      have : ws = [] := List.eq_nil_of_length_eq_zero (by have : ws.length < 1 := hl; omega)
      rw [this]
      exact List.nil_sublist _
    | nil =>
      cases ls with
      | nil => exact absurd rfl hls
      | cons a as => simp at hf
  | succ N ih =>
    intro xs h0
    cases hf : ls.filter fun c => !decide (c ∈ xs) with
    | cons a as =>
      rw [SF_eq, hf]
      have ha : a ∉ xs := by
        have : a ∈ ls.filter fun c => !decide (c ∈ xs) := by rw [hf]; exact List.mem_cons_self
        have := (List.mem_filter.mp this).2
        simpa using this
      refine ⟨(fun h => ha (h.subset List.mem_cons_self)), fun ws _ hl => ?_⟩
      have : ws = [] := List.eq_nil_of_length_eq_zero (by have : ws.length < 1 := hl; omega)
      rw [this]
      exact List.nil_sublist _
    | nil =>
      have hall : ∀ c ∈ ls, c ∈ xs := fun c hc => by
        have := List.filter_eq_nil_iff.mp hf c hc
        simpa using this
      obtain ⟨⟨c, hc, e⟩, hle⟩ := SF_step hls xs hf
      refine ⟨fun h => ?_, fun ws hin hl => ?_⟩
      · rw [e] at h
        cases ha : aft c xs with
        | none => exact absurd (hall c hc) (aft_none.mp ha)
        | some r =>
          rw [ha] at h
          have hl := aft_len ha
          exact (ih r (by omega)).1 ((cons_aft ha).mp h)
      · cases ws with
        | nil => exact List.nil_sublist _
        | cons d ws =>
          have hd := hin d List.mem_cons_self
          cases ha : aft d xs with
          | none => exact absurd (hall d hd) (aft_none.mp ha)
          | some r =>
            have h2 := hle d hd
            rw [ha] at h2
            have h3 := aft_len ha
            refine (cons_aft ha).mpr ((ih r (by omega)).2 ws (fun c hc => hin c (List.mem_cons_of_mem _ hc)) ?_)
            rw [List.length_cons] at hl
            exact Nat.lt_of_succ_lt_succ (Nat.lt_of_lt_of_le hl h2)
theorem SF_in {ls : List Nat} (hls : ls ≠ []) : ∀ (N : Nat) (xs : List Nat), xs.length ≤ N → ∀ c ∈ (SF ls xs).1, c ∈ ls := by
  intro N
  induction N with
  | zero =>
    intro xs h0
    have : xs = [] := List.eq_nil_of_length_eq_zero (by omega)
    subst this
    rw [SF_eq]
    cases hf : ls.filter fun c => !decide (c ∈ ([] : List Nat)) with
    | cons a as =>
      intro c hc
      rw [List.mem_singleton.mp hc]
      exact (List.mem_filter.mp (by rw [hf]; exact List.mem_cons_self : a ∈ ls.filter fun c => !decide (c ∈ ([] : List Nat)))).1
    | nil =>
      cases ls with
      | nil => exact absurd rfl hls
      | cons a as => simp at hf
  | succ N ih =>
    intro xs h0
    rw [SF_eq]
    cases hf : ls.filter fun c => !decide (c ∈ xs) with
    | cons a as =>
      intro c hc
      rw [List.mem_singleton.mp hc]
      exact (List.mem_filter.mp (by rw [hf]; exact List.mem_cons_self : a ∈ ls.filter fun c => !decide (c ∈ xs))).1
    | nil =>
      have hall : ∀ c ∈ ls, c ∈ xs := fun c hc => by
        have := List.filter_eq_nil_iff.mp hf c hc
        simpa using this
      obtain ⟨m, _⟩ := fm_mem (zs := List.zipWith (fun c r => c :: r.1) ls (ls.map fun c => SF ls ((aft c xs).getD []))) (by
        cases ls with
        | nil => exact absurd rfl hls
        | cons a as => simp)
      show ∀ c ∈ fm _, c ∈ ls
      obtain ⟨c, hc, e⟩ : ∃ c ∈ ls, fm (List.zipWith (fun c r => c :: r.1) ls (ls.map fun c => SF ls ((aft c xs).getD []))) = c :: (SF ls ((aft c xs).getD [])).1 := by
        rw [List.zipWith_map_right] at m ⊢
        have hzz : ∀ (f : Nat → List Nat) (l : List Nat), List.zipWith (fun c d => c :: f d) l l = l.map fun c => c :: f c := fun f l => by
          induction l with
          | nil => rfl
          | cons a as ih => rw [List.zipWith_cons_cons, ih]; rfl
        rw [hzz fun c => (SF ls ((aft c xs).getD [])).1] at m ⊢
        obtain ⟨c, hc, e⟩ := List.mem_map.mp m
        exact ⟨c, hc, e.symm⟩
      rw [e]
      cases ha : aft c xs with
      | none => exact absurd (hall c hc) (aft_none.mp ha)
      | some r =>
        have := aft_len ha
        intro d hd
        rcases List.mem_cons.mp hd with rfl | hd
        · exact hc
        · exact ih r (by omega) d hd
/-- one letter put to those met -/
def mt (ls : List Nat) (met : List Nat) (x : Nat) : List Nat := if x ∈ ls then (if x ∈ met then met else met ++ [x]) else met
def rd (ls : List Nat) : List Nat → List Nat → Nat
  | _, [] => 0
  | met, x :: xs => if (mt ls met x).length = ls.length then 1 + rd ls [] xs else rd ls (mt ls met x) xs
end L2
set_option Elab.async false
set_option linter.all false
namespace L2
open PySem
def cN (ls : List Nat) : Nat → List Nat → Nat
  | 0, _ => 0
  | n + 1, xs => (ls.map fun c => match aft c xs with | none => ls.length ^ n | some r => cN ls n r).sum
end L2
set_option Elab.async false
set_option linter.all false
set_option maxRecDepth 100000
namespace L2
open PySem PySem.Spec PyProof.Rows
def rMaxS : List V → Hp → VK → Prop := fun vs H Q => ∃ z : Str, vs = [.str z] ∧ 0 < z.cps.toList.length ∧ ∀ c, c ∈ z.cps.toList → (∀ x ∈ z.cps.toList, x ≤ c) → Q (.str (sg c)) H
end L2
set_option Elab.async false
set_option linter.all false
set_option maxRecDepth 100000
namespace L2
open PySem PySem.Spec PyProof.Rows
/-- the codes of the text at a place -/
def codesAt (zs : List Str) (i : Nat) : List Nat := (zs.getD i ⟨#[]⟩).cps.toList
def rMinS (K : PySem.W.Frag) : List V → Hp → VK → Prop := fun vs H Q => ∃ (a : Addr) (zs : List Str), vs = [.ref a] ∧ SqL K H a (zs.map V.str) ∧ 0 < zs.length ∧ ∀ z, z ∈ zs → (∀ y ∈ zs, ¬ y.cps.toList < z.cps.toList) → Q (.str z) H
end L2
set_option Elab.async false
set_option linter.all false
set_option maxRecDepth 100000
namespace L2
open PySem
structure Ent where
  p : Nat
  n : Nat
  r : Addr
abbrev kvE (E : List Ent) : List (Key × V) := E.map fun e => (Sum.inl (e.p : Int), V.ref e.r)
def pot (ls xs : List Nat) (m : Nat) (E : List Ent) : Nat := (E.map fun e => e.n * cN ls m (xs.drop e.p)).sum
end L2
set_option Elab.async false
set_option linter.all false
set_option maxRecDepth 100000
namespace L2
open PySem
def EntOk (xs : List Nat) (H : Hp) (t : Nat) (e : Ent) : Prop := e.p ≤ xs.length ∧ 0 < e.n ∧ ∃ f : Str, H e.r = some (.tup [.int (e.n : Int), .str f]) ∧ IsRow f ∧ f.length = t
structure Off where
  r : Addr
  n : Nat
  f : Str
def OffOk (H : Hp) (t : Nat) (u : Off) : Prop := 0 < u.n ∧ IsRow u.f ∧ u.f.length = t ∧ H u.r = some (.tup [.str u.f, .int (u.n : Int)])
structure Lvl (xs : List Nat) (t : Nat) (H0 Hi : Hp) (d d2 l : Addr) (od : Obj) (E F : List Ent) (O : List Off) : Prop where
  kp : Kp d H0 Hi
  hd : Hi d = some (.frz od (.dK (kvE E)))
  h2 : Hi d2 = some (.dK (kvE F))
  hl : Hi l = some (.lst (O.map fun u => V.ref u.r))
  n2 : H0 d2 = none
  nl : H0 l = none
  fn : (F.map (·.p)).Nodup
  fg : ∀ e ∈ F, EntOk xs Hi (t + 1) e
  og : ∀ u ∈ O, OffOk Hi (t + 1) u
theorem EntOk.keep {xs : List Nat} {H H' : Hp} {t : Nat} {e : Ent} (h : EntOk xs H t e) (k : ∀ b ys, H b = some (.tup ys) → H' b = some (.tup ys)) : EntOk xs H' t e :=
  ⟨h.1, h.2.1, let ⟨f, a, b⟩ := h.2.2; ⟨f, k _ _ a, b⟩⟩
theorem OffOk.keep {H H' : Hp} {t : Nat} {u : Off} (h : OffOk H t u) (k : ∀ b ys, H b = some (.tup ys) → H' b = some (.tup ys)) : OffOk H' t u := ⟨h.1, h.2.1, h.2.2.1, k _ _ h.2.2.2⟩
theorem Lvl.new {xs : List Nat} {t : Nat} {H0 Hi : Hp} {d d2 l : Addr} {od : Obj} {E F : List Ent} {O : List Off} (h : Lvl xs t H0 Hi d d2 l od E F O) {T : Addr} {o : HO} (nT : Hi T = none) : Lvl xs t H0 (upd Hi T o) d d2 l od E F O :=
  have s := same_new nT o
  ⟨h.kp.trans (s.kp d), s _ _ h.hd, s _ _ h.h2, s _ _ h.hl, h.n2, h.nl, h.fn, fun e he => (h.fg e he).keep fun b ys q => s _ _ q, fun u hu => (h.og u hu).keep fun b ys q => s _ _ q⟩
theorem Lvl.few {xs : List Nat} {t : Nat} {H0 Hi : Hp} {d d2 l : Addr} {od : Obj} {E F : List Ent} {O : List Off} (h : Lvl xs t H0 Hi d d2 l od E F O) : F.length ≤ xs.length + 1 := by
  have := nodup_len (l := F.map (·.p)) (m := List.range (xs.length + 1)) h.fn fun q hq => by
    obtain ⟨e, he, rfl⟩ := List.mem_map.mp hq
    exact List.mem_range.mpr (Nat.lt_succ_of_le (h.fg e he).1)
  rwa [List.length_map, List.length_range] at this
abbrev offD (u : Off) : PyData := .tuple [.str u.f, .int (u.n : Int)]
/-- the words of one letter's step -/
def stp (ls xs : List Nat) (m p c : Nat) : Nat := match aft c (xs.drop p) with | none => ls.length ^ m | some r => cN ls m r
def spSteps : Sp := fun vs H Q _ => ∃ z l : Str, vs = [.str z, .str l] ∧ z.length ≤ 200 ∧ LetOk l ∧ ∀ (r : Addr) (w : Str) (H' : Hp), Same H H' → H' r = some (.tup [.str w, .int (SF l.cps.toList z.cps.toList).2]) → Q (.ref r) H'
end L2
set_option Elab.async false
set_option linter.all false
set_option maxRecDepth 100000
namespace L2
open PySem
def adv : List Nat → List Nat → Option (List Nat)
  | [], xs => some xs
  | c :: w, xs => (aft c xs).bind (adv w)
theorem adv_none : ∀ {w xs : List Nat}, adv w xs = none ↔ ¬ w.Sublist xs
  | [], xs => ⟨(fun h => nomatch h), fun h => absurd (List.nil_sublist _) h⟩
  | c :: w, xs => by
    show (aft c xs).bind (adv w) = none ↔ _
    cases h : aft c xs with
    | none => exact ⟨fun _ s => (aft_none.mp h) (s.subset List.mem_cons_self), fun _ => rfl⟩
    | some r =>
      show adv w r = none ↔ _
      rw [adv_none, cons_aft h]
theorem adv_snoc (c : Nat) : ∀ w xs : List Nat, adv (w ++ [c]) xs = (adv w xs).bind (aft c)
  | [], xs => by
    show (aft c xs).bind (adv []) = aft c xs
    cases aft c xs <;> rfl
  | d :: w, xs => by
    show (aft d xs).bind (adv (w ++ [c])) = ((aft d xs).bind (adv w)).bind (aft c)
    cases aft d xs with
    | none => rfl
    | some r => exact adv_snoc c w r
theorem lt_cons {a b : Nat} {as bs : List Nat} : a :: as < b :: bs ↔ a < b ∨ (a = b ∧ as < bs) := List.cons_lt_cons_iff
theorem snoc_nlt {c : Nat} : ∀ {u v : List Nat}, u.length = v.length → ¬ u < v → ¬ (u ++ [c] < v ++ [c])
  | [], [], _, _ => List.lt_irrefl _
  | a :: u, b :: v, hl, h => by
    rw [List.cons_append, List.cons_append, lt_cons]
    rw [lt_cons] at h
    rintro (g | ⟨g1, g2⟩)
    · exact h (.inl g)
    · exact snoc_nlt (by simpa using hl) (fun g => h (.inr ⟨g1, g⟩)) g2
theorem nlt_trans {u v w : List Nat} (h1 : ¬ u < v) (h2 : ¬ v < w) : ¬ u < w := fun h => by
  have a : v ≤ u := h1
  have b : w ≤ v := h2
  have c : w ≤ u := List.le_trans b a
  exact c h
theorem nlt_antisymm {u v : List Nat} (h1 : ¬ u < v) (h2 : ¬ v < u) : u = v := List.le_antisymm (show u ≤ v from h2) (show v ≤ u from h1)
theorem SF_least {ls : List Nat} (hls : ls ≠ []) (hp : ls.Pairwise (· < ·)) : ∀ (N : Nat) (xs : List Nat), xs.length ≤ N → ∀ w : List Nat, (∀ c ∈ w, c ∈ ls) → w.length = (SF ls xs).1.length → ¬ w.Sublist xs → ¬ w < (SF ls xs).1 := by
  intro N
  induction N with
  | zero =>
    intro xs h0 w hw hl hn
    have : xs = [] := List.eq_nil_of_length_eq_zero (by omega)
    subst this
    have hfl : ls.filter (fun c => !decide (c ∈ ([] : List Nat))) = ls := List.filter_eq_self.mpr fun c _ => by simp
    rw [SF_eq, hfl] at hl ⊢
    cases ls with
    | nil => exact absurd rfl hls
    | cons a as =>
      match w, hl with
      | [c], _ =>
        show ¬ [c] < [a]
        rw [lt_cons]
        rintro (g | ⟨_, g⟩)
        · rcases List.mem_cons.mp (hw c List.mem_cons_self) with rfl | h
          · omega
          · have := (List.pairwise_cons.mp hp).1 c h
            omega
        · exact absurd g (List.lt_irrefl _)
  | succ N ih =>
    intro xs h0 w hw hl hn
    cases hf : ls.filter fun c => !decide (c ∈ xs) with
    | cons a as =>
      rw [SF_eq, hf] at hl ⊢
      have hpf : (a :: as).Pairwise (· < ·) := by rw [← hf]; exact hp.filter _
      match w, hl with
      | [c], _ =>
        have hcm : c ∈ a :: as := by
          rw [← hf, List.mem_filter]
          refine ⟨hw c List.mem_cons_self, ?_⟩
          have : c ∉ xs := fun h => hn (List.singleton_sublist.mpr h)
          simpa using this
        show ¬ [c] < [a]
        rw [lt_cons]
        rintro (g | ⟨_, g⟩)
        · rcases List.mem_cons.mp hcm with rfl | h
          · omega
          · have := (List.pairwise_cons.mp hpf).1 c h
            omega
        · exact absurd g (List.lt_irrefl _)
    | nil =>
      have hall : ∀ c ∈ ls, c ∈ xs := fun c hc => by
        have := List.filter_eq_nil_iff.mp hf c hc
        simpa using this
      have e0 : (SF ls xs).1 = fm (ls.map fun c => c :: (SF ls ((aft c xs).getD [])).1) := by
        rw [SF_eq, hf]
        show fm _ = _
        rw [List.zipWith_map_right, zz_map fun c => (SF ls ((aft c xs).getD [])).1]
      have hne : (ls.map fun c => c :: (SF ls ((aft c xs).getD [])).1) ≠ [] := fun e => hls (List.map_eq_nil_iff.mp e)
      obtain ⟨m1, m2⟩ := fm_mem hne
      rw [← e0] at m1 m2
      have hnl := (SF_is hls (N + 1) xs h0)
      match w, hl with
      | [], hl =>
        obtain ⟨c, _, e⟩ := List.mem_map.mp m1
        rw [← e] at hl
        simp at hl
      | d :: w, hl =>
        have hd := hw d List.mem_cons_self
        cases ha : aft d xs with
        | none => exact absurd (hall d hd) (aft_none.mp ha)
        | some r =>
          have hr := aft_len ha
          have hwr : ¬ w.Sublist r := fun h => hn ((cons_aft ha).mpr h)
          have hw' : ∀ c ∈ w, c ∈ ls := fun c hc => hw c (List.mem_cons_of_mem _ hc)
          have hge : (SF ls r).1.length ≤ w.length := Nat.le_of_not_lt fun h => hwr ((SF_is hls r.length r (Nat.le_refl _)).2 w hw' h)
          have hle : (SF ls xs).1.length ≤ (SF ls r).1.length + 1 := by
            have := m2 _ (List.mem_map.mpr ⟨d, hd, rfl⟩)
            rw [ha] at this
            exact this
          rw [List.length_cons] at hl
          have hlw : w.length = (SF ls r).1.length := by omega
          -- the first of the shortest stands no later than d
          obtain ⟨as, c0, bs, els, hlow, hc0⟩ : ∃ (as : List Nat) (c0 : Nat) (bs : List Nat), ls = as ++ c0 :: bs ∧ (∀ a ∈ as, ¬ ((SF ls ((aft a xs).getD [])).1.length + 1 ≤ (SF ls xs).1.length)) ∧ (SF ls xs).1 = c0 :: (SF ls ((aft c0 xs).getD [])).1 := by
            have hfd : (ls.map fun c => c :: (SF ls ((aft c xs).getD [])).1).find? (fun z => (ls.map fun c => c :: (SF ls ((aft c xs).getD [])).1).all fun y => decide (z.length ≤ y.length)) = some (SF ls xs).1 := by
              have e1 := e0
              unfold fm at e1
              cases hx : (ls.map fun c => c :: (SF ls ((aft c xs).getD [])).1).find? (fun z => (ls.map fun c => c :: (SF ls ((aft c xs).getD [])).1).all fun y => decide (z.length ≤ y.length)) with
              | none =>
                have := List.find?_eq_none.mp hx _ m1
                exact absurd (List.all_eq_true.mpr fun y hy => decide_eq_true (m2 y hy)) this
              | some z => rw [hx] at e1; rw [e1]; rfl
            obtain ⟨_, as, bs, e, hno⟩ := List.find?_eq_some_iff_append.mp hfd
            obtain ⟨as', t', ela, e2, e3⟩ := List.map_eq_append_iff.mp e
            obtain ⟨c0, bs', ela2, e4, e5⟩ := List.map_eq_cons_iff.mp e3
            refine ⟨as', c0, bs', by rw [ela, ela2], fun a ham hlt => ?_, e4.symm⟩
            have h1 := hno (a :: (SF ls ((aft a xs).getD [])).1) (by rw [← e2]; exact List.mem_map.mpr ⟨a, ham, rfl⟩)
            have h2 : ((ls.map fun c => c :: (SF ls ((aft c xs).getD [])).1).all fun y => decide ((a :: (SF ls ((aft a xs).getD [])).1).length ≤ y.length)) = true := List.all_eq_true.mpr fun y hy => decide_eq_true (by
              rw [List.length_cons]; exact Nat.le_trans hlt (m2 y hy))
            rw [h2] at h1
            exact absurd h1 (by decide)
          have hdc : c0 ≤ d := by
            have hd2 := hd
            rw [els] at hd2
            rcases List.mem_append.mp hd2 with h | h
            · exact absurd (by rw [ha]; show (SF ls r).1.length + 1 ≤ _; omega) (hlow d h)
            · rcases List.mem_cons.mp h with rfl | h
              · exact Nat.le_refl _
              · rw [els, List.pairwise_append] at hp
                exact Nat.le_of_lt ((List.pairwise_cons.mp hp.2.1).1 d h)
          rw [hc0, lt_cons]
          rintro (g | ⟨g, g2⟩)
          · omega
          · subst g
            rw [ha] at g2
            exact ih r (by omega) w hw' hlw hwr g2
def wf (H : Hp) (r : Addr) : List Nat := match H r with | some (.tup [_, .str f]) => f.cps.toList | _ => []
theorem wf_of {H : Hp} {r : Addr} {n : V} {f : Str} (h : H r = some (.tup [n, .str f])) : wf H r = f.cps.toList := by unfold wf; rw [h]
theorem EntOk.wf {xs : List Nat} {H H' : Hp} {t : Nat} {e : Ent} (h : EntOk xs H t e) (k : ∀ b ys, H b = some (.tup ys) → H' b = some (.tup ys)) : wf H' e.r = wf H e.r := by
  obtain ⟨_, _, f, hf, _⟩ := h
  rw [wf_of hf, wf_of (k _ _ hf)]
def Wd (ls : List Nat) (t : Nat) (w : List Nat) : Prop := (∀ c ∈ w, c ∈ ls) ∧ w.length = t
/-- a word of one letter more is told off, or has a word no greater at its place -/
def Cov (xs : List Nat) (Hi : Hp) (F : List Ent) (O : List Off) (w : List Nat) (p c : Nat) : Prop :=
  match aft c (xs.drop p) with
  | none => ∃ u ∈ O, u.f.cps.toList = w
  | some r => ∃ e ∈ F, xs.drop e.p = r ∧ ¬ w < wf Hi e.r
structure Wds (ls xs : List Nat) (t : Nat) (H0 Hi : Hp) (F : List Ent) (O : List Off) (done : List (Ent × Nat)) : Prop where
  fw : ∀ e ∈ F, Wd ls (t + 1) (wf Hi e.r) ∧ adv (wf Hi e.r) xs = some (xs.drop e.p)
  ow : ∀ u ∈ O, Wd ls (t + 1) u.f.cps.toList ∧ adv u.f.cps.toList xs = none
  cv : ∀ x ∈ done, Cov xs Hi F O (wf H0 x.1.r ++ [x.2]) x.1.p x.2
theorem Wds.keep {ls xs : List Nat} {t : Nat} {H0 Hi Hj : Hp} {F : List Ent} {O : List Off} {dn : List (Ent × Nat)} (h : Wds ls xs t H0 Hi F O dn) (fg : ∀ e ∈ F, EntOk xs Hi (t + 1) e) (k : ∀ b ys, Hi b = some (.tup ys) → Hj b = some (.tup ys)) : Wds ls xs t H0 Hj F O dn := by
  have ew : ∀ e ∈ F, wf Hj e.r = wf Hi e.r := fun e he => (fg e he).wf k
  refine ⟨fun e he => by rw [ew e he]; exact h.fw e he, h.ow, fun x hx => ?_⟩
  have := h.cv x hx
  unfold Cov at this ⊢
  split
  · rename_i ha; rw [ha] at this; exact this
  · rename_i r ha
    rw [ha] at this
    obtain ⟨e, he, h1, h2⟩ := this
    exact ⟨e, he, h1, by rw [ew e he]; exact h2⟩
theorem last_split {w : List Nat} {t : Nat} (h : w.length = t + 1) : ∃ (w0 : List Nat) (c : Nat), w = w0 ++ [c] ∧ w0.length = t := by
  have hne : w ≠ [] := fun e => by rw [e] at h; cases h
  refine ⟨w.dropLast, w.getLast hne, (List.dropLast_concat_getLast hne).symm, by rw [List.length_dropLast]; omega⟩
structure Lv0 (ls xs : List Nat) (t : Nat) (H : Hp) (E : List Ent) : Prop where
  a : ∀ e ∈ E, Wd ls t (wf H e.r) ∧ adv (wf H e.r) xs = some (xs.drop e.p)
  b : ∀ w r, Wd ls t w → adv w xs = some r → ∃ e ∈ E, xs.drop e.p = r ∧ ¬ w < wf H e.r
theorem Wds.cov {ls xs : List Nat} {t : Nat} {H0 Hi : Hp} {E F : List Ent} {O : List Off} (h0 : Lv0 ls xs t H0 E) (h : Wds ls xs t H0 Hi F O (E.flatMap fun e => ls.map fun c => (e, c))) {w0 : List Nat} {c : Nat} {r : List Nat} (hw : Wd ls (t + 1) (w0 ++ [c])) (hl : w0.length = t) (ha : adv w0 xs = some r) : ∃ e ∈ E, xs.drop e.p = r ∧ ¬ (w0 ++ [c]) < (wf H0 e.r ++ [c]) ∧ Cov xs Hi F O (wf H0 e.r ++ [c]) e.p c := by
  obtain ⟨e, he, h1, h2⟩ := h0.b w0 r ⟨fun d hd => hw.1 d (List.mem_append_left _ hd), hl⟩ ha
  refine ⟨e, he, h1, snoc_nlt (by rw [hl, (h0.a e he).1.2]) h2, h.cv (e, c) ?_⟩
  exact List.mem_flatMap.mpr ⟨e, he, List.mem_map.mpr ⟨c, hw.1 c (List.mem_append_right _ List.mem_cons_self), rfl⟩⟩
theorem Wds.step {ls xs : List Nat} {t : Nat} {H0 Hi : Hp} {E F : List Ent} {O : List Off} (h0 : Lv0 ls xs t H0 E) (h : Wds ls xs t H0 Hi F O (E.flatMap fun e => ls.map fun c => (e, c))) : Lv0 ls xs (t + 1) Hi F := by
  refine ⟨h.fw, fun w r hw ha => ?_⟩
  obtain ⟨w0, c, rfl, hl⟩ := last_split hw.2
  rw [adv_snoc] at ha
  cases hx : adv w0 xs with
  | none => rw [hx] at ha; cases ha
  | some r0 =>
    rw [hx] at ha
    have ha : aft c r0 = some r := ha
    obtain ⟨e, he, h1, h2, h3⟩ := h.cov h0 hw hl hx
    unfold Cov at h3
    rw [h1, ha] at h3
    obtain ⟨u, hu, g1, g2⟩ := h3
    exact ⟨u, hu, g1, nlt_trans h2 g2⟩
theorem Wds.miss {ls xs : List Nat} {t : Nat} {H0 Hi : Hp} {E F : List Ent} {O : List Off} (hls : ls ≠ []) (h0 : Lv0 ls xs t H0 E) (h : Wds ls xs t H0 Hi F O (E.flatMap fun e => ls.map fun c => (e, c))) (hL : t + 1 = (SF ls xs).1.length) : ∃ u ∈ O, ¬ (SF ls xs).1 < u.f.cps.toList := by
  obtain ⟨i1, i2⟩ := SF_is hls xs.length xs (Nat.le_refl _)
  have hin := SF_in hls xs.length xs (Nat.le_refl _)
  obtain ⟨w0, c, e, hl⟩ := last_split hL.symm
  have hs : w0.Sublist xs := i2 w0 (fun d hd => hin d (by rw [e]; exact List.mem_append_left _ hd)) (by omega)
  have hn := adv_none.mpr i1
  rw [e, adv_snoc] at hn
  cases hx : adv w0 xs with
  | none => exact absurd hs (adv_none.mp hx)
  | some r0 =>
    rw [hx] at hn
    have hn : aft c r0 = none := hn
    obtain ⟨u, hu, h1, h2, h3⟩ := h.cov h0 (c := c) ⟨(by rw [← e]; exact hin), by rw [← e]; exact hL.symm⟩ hl hx
    unfold Cov at h3
    rw [h1, hn] at h3
    obtain ⟨v, hv, g⟩ := h3
    exact ⟨v, hv, by rw [g, e]; exact h2⟩
theorem Wds.least {ls xs : List Nat} {t : Nat} {H0 Hi : Hp} {E F : List Ent} {O : List Off} (hls : ls ≠ []) (hp : ls.Pairwise (· < ·)) (h0 : Lv0 ls xs t H0 E) (h : Wds ls xs t H0 Hi F O (E.flatMap fun e => ls.map fun c => (e, c))) (hO : O ≠ []) (ht : t < (SF ls xs).1.length) {w : Str} (hw : w ∈ O.map fun u => u.f) (hm : ∀ y ∈ O.map fun u => u.f, ¬ y.cps.toList < w.cps.toList) : w.cps.toList = (SF ls xs).1 := by
  obtain ⟨i1, i2⟩ := SF_is hls xs.length xs (Nat.le_refl _)
  have hL : t + 1 = (SF ls xs).1.length := by
    cases O with
    | nil => exact absurd rfl hO
    | cons u O =>
      obtain ⟨⟨a1, a2⟩, a3⟩ := h.ow u List.mem_cons_self
      refine Classical.byContradiction fun g => ?_
      exact (adv_none.mp a3) (i2 _ a1 (by omega))
  obtain ⟨u, hu, hu2⟩ := h.miss hls h0 hL
  obtain ⟨v, hv, rfl⟩ := List.mem_map.mp hw
  obtain ⟨⟨a1, a2⟩, a3⟩ := h.ow v hv
  refine nlt_antisymm ?_ ?_
  · exact SF_least hls hp xs.length xs (Nat.le_refl _) _ a1 (by rw [a2, hL]) (adv_none.mp a3)
  · exact nlt_trans hu2 (hm _ (List.mem_map.mpr ⟨u, hu, rfl⟩))
def spSteps1 : Sp := fun vs H Q _ => ∃ z l : Str, vs = [.str z, .str l] ∧ z.length ≤ 200 ∧ LetOk l ∧ ∀ (r : Addr) (w : Str) (n : Int) (H' : Hp), Same H H' → H' r = some (.tup [.str w, .int n]) → w.cps.toList = (SF l.cps.toList z.cps.toList).1 → Q (.ref r) H'
end L2
set_option Elab.async false
set_option linter.all false
set_option maxRecDepth 100000
namespace L2
open PySem
abbrev lnS (ls xs : List Nat) : Nat := (SF ls xs).1.length
def wds (ls : List Nat) : Nat → List (List Nat)
  | 0 => [[]]
  | n + 1 => ls.flatMap fun c => (wds ls n).map (c :: ·)
end L2
set_option Elab.async false
set_option linter.all false
set_option maxRecDepth 100000
namespace L2
open PySem
theorem shB_snoc (row ls : List Nat) : ∀ (es : List Int) (s b : Nat) (e : Int), shB row ls s es = true → (match es.getLast? with | none => s | some x => x.toNat) = b → 0 ≤ e → e < (row.length : Int) + 1 → (∀ c ∈ ls, c ∈ (row.drop b).take (e.toNat - b)) → shB row ls s (es ++ [e]) = true
  | [], s, b, e, _, hb, h0, h1, h2 => by
    have hb : s = b := hb
    subst hb
    show shB row ls s [e] = true
    rw [shB_cons, decide_eq_true ⟨h0, h1⟩, List.all_eq_true.mpr fun c hc => decide_eq_true (h2 c hc)]
    rfl
  | x :: es, s, b, e, h, hb, h0, h1, h2 => by
    rw [shB_cons, Bool.and_eq_true, Bool.and_eq_true] at h
    obtain ⟨g1, g2, g3⟩ := h
    rw [List.cons_append, shB_cons, g1, g2, shB_snoc row ls es x.toNat b e g3 ?_ h0 h1 h2]
    · rfl
    · rw [← hb, List.getLast?_cons]
      cases es.getLast? <;> rfl
end L2
set_option Elab.async false
set_option linter.all false
set_option maxRecDepth 100000
set_option maxHeartbeats 8000000
namespace Lv
open PySem L2
section
variable {P : Program} {w : World} {K : PySem.W.Frag} {mg : Str → Option Value} {base : Heap} {f : Addr} {fd : FuncData}
abbrev sLawLoose : Stmt := top 23
def nLawLoose : List Str := ["draws", "row", "letters", "found", "begin", "end", "missing", "letter"]
theorem scLawLoose : FnScope nLawLoose ["draws", "row", "letters"] (defScope sLawLoose) := ⟨rfl, rfl, rfl, by decide +kernel, rfl, by decide +kernel, by decide +kernel⟩
theorem ok_loose (T : Glb mg) (c_law_take : Callee P w K mg base 1 "_law_take" ["draws", "many"] spTake) (F : Fun K "_law_loose" "_law_loose" sLawLoose f fd) : FnOk P w K mg base CX0 2 f fd ["draws", "row", "letters"] spLoose39 := by
  refine F.ok scLawLoose (fun vs H Q E h => ?_) (fun cdv A outer s H vs Q E hr h => ?_)
  · obtain ⟨p, z, l, rfl, _⟩ := h
    rfl
  obtain ⟨p, z, l, rfl, hD, lz, hL, q⟩ := h
  have hu := hu_of hr
  refine' ⟨_, ?TT, ?RR⟩
  case TT =>
    refine' pss_cons ?x161 ?x162
    case x161 =>
     refine' ps_set (i := 3) scLawLoose.nd rfl (Or.inl rfl) ?x163
     case x163 =>
      refine' pe_lst ?x164
      case x164 =>
       exact pa_nil
    case x162 =>
     refine' pss_cons ?x165 ?x166
     case x165 =>
      refine' ps_set (i := 4) scLawLoose.nd rfl (Or.inr rfl) ?x167
      case x167 =>
       exact pe_int
     case x166 =>
      refine' pss_cons ?x168 ?x169
      case x168 =>
       refine' ps_for PassesOwn.never rfl ?x170 (pg_name (i := 5) scLawLoose.nd rfl (Or.inr rfl)) ?x171
       case x170 =>
        refine' pi_range2 rfl T.m_range ?x172
        case x172 =>
         refine' pa_Const ?x173 ?x174
         case x173 =>
          exact pe_int
         case x174 =>
          refine' pa_BinOp ?x175 ?x176
          case x175 =>
           refine' pe_op op_add ?x177 ?x178
           case x177 =>
            refine' pe_callB call_len_str rfl T.m_len PySem.boot_len ?x179
            case x179 =>
             refine' pa_Name (pv 1) ?x180
             case x180 =>
              exact pa_nil
           case x178 =>
            exact pe_int
          case x176 =>
           exact pa_nil
       case x171 =>
        refine' pss_cons ?x181 ?x182
        case x181 =>
         refine' ps_setLc (i := 6) (own := [("letter", 7)]) (g := gName 7) (by rfl) scLawLoose.nd rfl rfl (sw_true rfl rfl rfl (by decide +kernel)) ?x183 (blkOk_by (own := [("letter", 7)]) (N := nLawLoose) (sc := defScope sLawLoose) (by decide +kernel)) (fun _ _ _ _ _ => pg_name (i := 7) scLawLoose.nd rfl (Or.inl rfl)) ?x184 (fun _ _ _ _ _ => (pv 7))
         case x183 =>
          exact (pi_str (pv 2))
         case x184 =>
          intro _ _ _ _ _
          exact pts_one (pt_cmpR op_notIn_sign (pv 7) (pe_slice sl_str (pv 1) (po_some (pv 4)) (po_some (pv 5))) (by rfl))
        case x182 =>
         refine' pss_one ?x185
         case x185 =>
          refine' ps_cut ?x186
          case x186 =>
           refine' ps_if ?x187 ?x188 ?x189
           case x187 =>
            refine' PW.pt ?x190
            case x190 =>
             refine' pw_and ?x191 ?x192
             case x191 =>
              refine' pt_cmpR (op_eqD hr.units) (pv 6) ?x193 (nomark _)
              case x193 =>
               refine' pe_lst ?x194
               case x194 =>
                exact pa_nil
             case x192 =>
              refine' pw_and1 ?x195
              case x195 =>
               refine' pt_cmpR op_ne ?x196 ?x197 (nomark _)
               case x196 =>
                refine' pe_callC c_law_take hr rfl ?x198
                case x198 =>
                 refine' pa_Name (pv 0) ?x199
                 case x199 =>
                  refine' pa_Const ?x200 ?x201
                  case x200 =>
                   exact pe_int
                  case x201 =>
                   exact pa_nil
               case x197 =>
                exact pe_int
           case x188 =>
            refine' pss_cons ?x202 ?x203
            case x202 =>
             refine' ps_expr ?x204
             case x204 =>
              refine' pe_bm PySem.F.plainAttrs_list PySem.F.slot_list_append PySem.F.type_list_append mt_append (pv 3) ?x205
              case x205 =>
               refine' pa_Name (pv 5) ?x206
               case x206 =>
                exact pa_nil
            case x203 =>
             refine' pss_one ?x207
             case x207 =>
              exact (ps_set (i := 4) scLawLoose.nd rfl (Or.inr rfl) (pv 5))
           case x189 =>
            exact pss_nil
      case x169 =>
       refine' pss_one ?x208
       case x208 =>
        exact (ps_ret (pv 3))
  case RR =>
    obtain ⟨rl, nel, pwl⟩ := id hL
    have ndl : l.cps.toList.Nodup := pwl.imp fun h => Nat.ne_of_lt h
    have l26 := hL.len
    have el := len_cps l
    have ez := len_cps z
    have lp := List.length_pos_iff.mpr nel
    refine ⟨(by show 0 ≤ sizeLine; decide), fun m nm => ?_⟩
    generalize jm : upd _ m _ = G1
    have sm := upS jm nm; have em := upE jm
    have hD1 := hD.same sm
    have nmp : m ≠ p := hD.ne nm
    refine ⟨_, rfl, z, rfl, small80 (by omega), _, _, rfl, rfl, 1, (z.length : Int) + 1, rfl, ⟨by omega, by omega, by omega, by omega⟩, ?_⟩
    rw [show ((z.length : Int) + 1 - 1).toNat = z.cps.toList.length by omega]
    refine for_range (lo := 1) (n := z.cps.toList.length) (fun i σ Hj => DrawsAt Hj p ∧ Kp p H Hj ∧ ∃ (es : List Int) (b : Nat) (v5 v6 : Option V), b ≤ i ∧ es.length ≤ i ∧ (match es.getLast? with | none => 0 | some x => x.toNat) = b ∧ shB z.cps.toList l.cps.toList 0 es = true ∧ Hj m = some (.lst (es.map V.int)) ∧ σ = [some (.ref p), some (.str z), some (.str l), some (.ref m), some (.int (b : Int)), v5, v6, none]) ?_ ?_ ?_
    · exact ⟨hD1, sm.kp p, [], 0, _, _, Nat.le_refl _, Nat.le_refl _, rfl, rfl, em, rfl⟩
    · rintro i σ Hj hi ⟨hDj, kj, es, b, v5, v6, hb, hel, hlast, hsh, hm, rfl⟩
      have hcut : (cutS z (some (b : Int)) (some (1 + (i : Int)))).cps.toList = (z.cps.toList.drop b).take (1 + i - b) := by
        rw [cut_mid2 z (by omega) (by omega) (by omega) (by omega)]
        congr 1
      refine ⟨_, rfl, l, rfl, fun D nD => ?_⟩
      refine lc_str (z := l) (fun j H5 => Same Hj H5 ∧ H5 D = some (.lst ((((l.cps.toList.take j).filter fun c => !decide (c ∈ (z.cps.toList.drop b).take (1 + i - b))).map sg).map V.str))) ?_ ?_ ?_
      · exact ⟨same_new nD _, by rw [upd_same, List.take_zero]; rfl⟩
      · rintro j c H5 hc ⟨s5, h5⟩
        refine ⟨rfl, ?_⟩
        have hcl := (List.getElem?_eq_some_iff.mp hc).1
        refine ⟨_, rfl, _, rfl, _, rfl, _, rfl, _, rfl, _, rfl, z, rfl, small80 (by omega), c, _, rfl, rfl, _, rfl, ?_⟩
        rw [hcut]
        refine ite2 (fun h => ?_) (fun h => ?_)
        · refine ⟨_, rfl, _, h5, ?_, same_over' s5 nD, ?_⟩
          · rw [List.length_map, List.length_map]
            exact small1000 (Nat.le_trans (List.length_filter_le _ _) (by rw [List.length_take]; omega))
          · rw [upd_same, take_filter hc, if_pos h, List.map_append, List.map_append]; rfl
        · refine ⟨s5, ?_⟩
          rw [take_filter hc, if_neg h, List.append_nil]
          exact h5
      rintro H5 ⟨s5, h5⟩
      rw [List.take_length] at h5
      have hD5 := hDj.same s5
      have kj5 := kj.trans (s5.kp p)
      have hm5 := s5 _ _ hm
      refine ⟨fun σ Hk => DrawsAt Hk p ∧ Kp p H Hk ∧ ∃ (es : List Int) (b : Nat) (v5 v6 : Option V), b ≤ i + 1 ∧ es.length ≤ i + 1 ∧ (match es.getLast? with | none => 0 | some x => x.toNat) = b ∧ shB z.cps.toList l.cps.toList 0 es = true ∧ Hk m = some (.lst (es.map V.int)) ∧ σ = [some (.ref p), some (.str z), some (.str l), some (.ref m), some (.int (b : Int)), v5, v6, none], ?_, fun σ Hk h => h⟩
      refine ⟨_, rfl, (by show 0 ≤ sizeLine; decide), fun l0 nl0 => ?_⟩
      generalize j6 : upd _ l0 _ = H6
      have s6 := upS j6 nl0; have e6 := upE j6
      have hD6 := hD5.same s6
      have kj6 := kj5.trans (s6.kp p)
      have hm6 := s6 _ _ hm5
      refine ⟨_, _, Dp.strs (SqL.of (s6 _ _ h5)), Dp.strs (zs := []) (SqL.of e6), shaped_strs _ (asc_sgs fun c hc => rl c (List.mem_filter.mp hc).1), shaped_strs _ (fun z hz => nomatch hz), _, rfl, ?_⟩
      rw [eqv_strs_nil']
      refine ite2 (fun h => ?_) (fun h => ?_)
      · have hall : ∀ c ∈ l.cps.toList, c ∈ (z.cps.toList.drop b).take (1 + i - b) := fun c hc => by
          have h' := List.map_eq_nil_iff.mp (of_decide_eq_true h)
          have := List.filter_eq_nil_iff.mp h' c hc
          simpa using this
        refine ⟨_, rfl, p, _, rfl, hD6, by decide, fun v H7 a7 b7 hD7 k7 => ?_⟩
        have hm7 := k7 _ _ hm6 nmp
        refine ⟨rfl, _, rfl, ?_⟩
        refine ite2 (fun h => ?_) (fun h => ?_)
        · refine ⟨_, rfl, .inl ⟨rfl, _, SqL.of hm7⟩, _, rfl, m, _, _, rfl, rfl, hm7, by rw [List.length_map]; exact small1000 (by omega), ?_⟩
          refine ⟨_, rfl, ?_⟩
          have hsn := shB_snoc z.cps.toList l.cps.toList es 0 b (1 + (i : Int)) hsh hlast (by omega) (by omega) (by rw [show (1 + (i : Int)).toNat = 1 + i by omega]; exact hall)
          refine ⟨hD7.over nmp, Kp.over (kj6.trans k7) nm, es ++ [1 + (i : Int)], 1 + i, some (.int (1 + (i : Int))), some (.ref D), by omega, by rw [List.length_append]; show _ + 1 ≤ _; omega, ?_, hsn, ?_, ?_⟩
          · rw [List.getLast?_append, List.getLast?_singleton]
            show (1 + (i : Int)).toNat = 1 + i
            omega
          · rw [upd_same, List.map_append]; rfl
          · rw [show ((1 + i : Nat) : Int) = 1 + (i : Int) by omega]; rfl
        · exact ⟨hD7, kj6.trans k7, es, b, _, _, by omega, by omega, hlast, hsh, hm7, rfl⟩
      · refine iteF ?_
        exact ⟨hD6, kj6, es, b, _, _, by omega, by omega, hlast, hsh, hm6, rfl⟩
    rintro σ Hj ⟨hDj, kj, es, b, v5, v6, hb, hel, hlast, hsh, hm, rfl⟩
    exact ⟨_, rfl, q m es Hj hDj kj nmp hm (by omega) fun e he => by have := shB_bound es 0 hsh e he; omega⟩
end
end Lv
set_option Elab.async false
set_option linter.all false
set_option maxRecDepth 100000
set_option maxHeartbeats 8000000
namespace L2
open PySem
def spThings : Sp := fun vs H Q _ => ∃ (p : Addr) (z l : Str), vs = [.ref p, .str z, .str l] ∧ DrawsAt H p ∧ z.length ≤ 80 ∧ LetOk l ∧ ∀ (t : Addr) (xs : List V) (H' : Hp), DrawsAt H' p → Kp p H H' → H' t = some (.lst xs) → t ≠ p → xs.length ≤ 100 → (∀ x ∈ xs, Thg p H' x) → Q (.ref t) H'
end L2
namespace Lv
open PySem L2
section
variable {P : Program} {w : World} {K : PySem.W.Frag} {mg : Str → Option Value} {base : Heap} {f : Addr} {fd : FuncData}
abbrev sLawThings : Stmt := top 26
def nLawThings : List Str := ["draws", "row", "letters", "least", "size", "loose", "bent", "found"]
theorem scLawThings : FnScope nLawThings ["draws", "row", "letters"] (defScope sLawThings) := ⟨rfl, rfl, rfl, by decide +kernel, rfl, by decide +kernel, by decide +kernel⟩
theorem ok_things (T : Glb mg) (c_law_arches : Callee P w K mg base 1 "_law_arches" ["row", "letters"] spArchesL) (c_law_loose : Callee P w K mg base 2 "_law_loose" ["draws", "row", "letters"] spLoose39) (c_law_spoilt : Callee P w K mg base 3 "_law_spoilt" ["draws", "some", "size"] spSpoilt39) (F : Fun K "_law_things" "_law_things" sLawThings f fd) : FnOk P w K mg base CX0 4 f fd ["draws", "row", "letters"] spThings := by
  refine F.ok scLawThings (fun vs H Q E h => ?_) (fun cdv A outer s H vs Q E hr h => ?_)
  · obtain ⟨p, z, l, rfl, _⟩ := h
    rfl
  obtain ⟨p, z, l, rfl, hD, lz, hL, q⟩ := h
  have hu := hu_of hr
  refine' ⟨_, ?TT, ?RR⟩
  case TT =>
    refine' pss_cons ?x1 ?x2
    case x1 =>
     refine' ps_set (i := 3) scLawThings.nd rfl (Or.inl rfl) ?x3
     case x3 =>
      refine' pe_callC c_law_arches hr rfl ?x4
      case x4 =>
       refine' pa_Name (pv 1) ?x5
       case x5 =>
        refine' pa_Name (pv 2) ?x6
        case x6 =>
         exact pa_nil
    case x2 =>
     refine' pss_cons ?x7 ?x8
     case x7 =>
      refine' ps_set (i := 4) scLawThings.nd rfl (Or.inl rfl) ?x9
      case x9 =>
       refine' pe_callB call_len_str rfl T.m_len PySem.boot_len ?x10
       case x10 =>
        refine' pa_Name (pv 1) ?x11
        case x11 =>
         exact pa_nil
     case x8 =>
      refine' pss_cons ?x12 ?x13
      case x12 =>
       refine' ps_set (i := 5) scLawThings.nd rfl (Or.inl rfl) ?x14
       case x14 =>
        refine' pe_callC c_law_loose hr rfl ?x15
        case x15 =>
         refine' pa_Name (pv 0) ?x16
         case x16 =>
          refine' pa_Name (pv 1) ?x17
          case x17 =>
           refine' pa_Name (pv 2) ?x18
           case x18 =>
            exact pa_nil
      case x13 =>
       refine' pss_cons ?x19 ?x20
       case x19 =>
        refine' ps_set (i := 6) scLawThings.nd rfl (Or.inl rfl) ?x21
        case x21 =>
         refine' pe_callC c_law_spoilt hr rfl ?x22
         case x22 =>
          refine' pa_Name (pv 0) ?x23
          case x23 =>
           refine' pa_Name (pv 3) ?x24
           case x24 =>
            refine' pa_Name (pv 4) ?x25
            case x25 =>
             exact pa_nil
       case x20 =>
        refine' pss_cons ?x26 ?x27
        case x26 =>
         show PS _ (.Assign [.Name _ _] (.List _ _) _) _
         refine' @ps_setL9 _ 7 _ _ _ _ _ _ ?a ?b ?c ?x28 ?e
         case a => exact scLawThings.nd
         case b => rfl
         case c => exact Or.inl rfl
         case e => exact Or.inl rfl
         case x28 =>
          refine' pe_lst ?x29
          case x29 =>
           refine' pa_Name (pv 3) ?x30
           case x30 =>
            refine' pa_Name (pv 5) ?x31
            case x31 =>
             refine' pa_Subscript ?x32 ?x33
             case x32 =>
              exact (pe_slice sl_list (pv 3) po_none (po_some (pe_un un_neg pe_int)))
             case x33 =>
              refine' pa_Subscript ?x34 ?x35
              case x34 =>
               exact (pe_slice sl_list (pv 3) (po_some pe_int) po_none)
              case x35 =>
               refine' pa_List ?x36 ?x37
               case x36 =>
                refine' pe_lst ?x38
                case x38 =>
                 exact pa_nil
               case x37 =>
                refine' pa_BinOp ?x39 ?x40
                case x39 =>
                 refine' pe_op op_cat ?x41 ?x42
                 case x41 =>
                  exact (pe_slice sl_list (pv 3) po_none (po_some (pe_un un_neg pe_int)))
                 case x42 =>
                  refine' pe_lst ?x43
                  case x43 =>
                   refine' pa_Name (pv 4) ?x44
                   case x44 =>
                    exact pa_nil
                case x40 =>
                 refine' pa_BinOp ?x45 ?x46
                 case x45 =>
                  refine' pe_op op_cat (pv 3) ?x47
                  case x47 =>
                   refine' pe_lst ?x48
                   case x48 =>
                    refine' pa_Name (pv 4) ?x49
                    case x49 =>
                     exact pa_nil
                 case x46 =>
                  refine' pa_List ?x50 ?x51
                  case x50 =>
                   refine' pe_lst ?x52
                   case x52 =>
                    refine' pa_Name (pv 4) ?x53
                    case x53 =>
                     exact pa_nil
                  case x51 =>
                   refine' pa_List ?x54 ?x55
                   case x54 =>
                    refine' pe_lst ?x56
                    case x56 =>
                     refine' pa_Const ?x57 ?x58
                     case x57 =>
                      exact pe_int
                     case x58 =>
                      exact pa_nil
                   case x55 =>
                    refine' pa_List ?x59 ?x60
                    case x59 =>
                     refine' pe_lst ?x61
                     case x61 =>
                      refine' pa_Const ?x62 ?x63
                      case x62 =>
                       exact pe_int
                      case x63 =>
                       exact pa_nil
                    case x60 =>
                     refine' pa_List ?x64 ?x65
                     case x64 =>
                      refine' pe_lst ?x66
                      case x66 =>
                       refine' pa_Const ?x67 ?x68
                       case x67 =>
                        exact pe_bl
                       case x68 =>
                        exact pa_nil
                     case x65 =>
                      exact pa_nil
        case x27 =>
         refine' pss_cons ?x69 ?x70
         case x69 =>
          show PS _ (.Assign [.Name _ _] (.BinOp _ _ _ _) _) _
          refine' @ps_setB _ 7 _ _ _ _ _ _ _ _ ?a ?b ?c ?x71 ?e
          case a => exact scLawThings.nd
          case b => rfl
          case c => exact Or.inl rfl
          case e => exact Or.inl rfl
          case x71 =>
           refine' pe_op op_cat (pv 7) ?x72
           case x72 =>
            refine' pe_lst ?x73
            case x73 =>
             refine' pa_Name (pv 6) ?x74
             case x74 =>
              refine' pa_Call ?x75 ?x76
              case x75 =>
               refine' pe_callC c_law_spoilt hr rfl ?x77
               case x77 =>
                refine' pa_Name (pv 0) ?x78
                case x78 =>
                 refine' pa_Name (pv 6) ?x79
                 case x79 =>
                  refine' pa_Name (pv 4) ?x80
                  case x80 =>
                   exact pa_nil
              case x76 =>
               refine' pa_Call ?x81 ?x82
               case x81 =>
                refine' pe_callC c_law_spoilt hr rfl ?x83
                case x83 =>
                 refine' pa_Name (pv 0) ?x84
                 case x84 =>
                  refine' pa_Name (pv 5) ?x85
                  case x85 =>
                   refine' pa_Name (pv 4) ?x86
                   case x86 =>
                    exact pa_nil
               case x82 =>
                exact pa_nil
         case x70 =>
          refine' pss_cons ?x87 ?x88
          case x87 =>
           refine' ps_expr ?x89
           case x89 =>
            refine' pe_bm PySem.F.plainAttrs_list PySem.F.slot_list_append PySem.F.type_list_append mt_append (pv 7) ?x90
            case x90 =>
             refine' pa_Call ?x91 ?x92
             case x91 =>
              refine' pe_callC c_law_spoilt hr rfl ?x93
              case x93 =>
               refine' pa_Name (pv 0) ?x94
               case x94 =>
                refine' pa_Name (pv 3) ?x95
                case x95 =>
                 refine' pa_Name (pv 4) ?x96
                 case x96 =>
                  exact pa_nil
             case x92 =>
              exact pa_nil
          case x88 =>
           refine' pss_cons ?x97 ?x98
           case x97 =>
            show PS _ (.Assign [.Name _ _] (.BinOp _ _ _ _) _) _
            refine' @ps_setB _ 7 _ _ _ _ _ _ _ _ ?a ?b ?c ?x99 ?e
            case a => exact scLawThings.nd
            case b => rfl
            case c => exact Or.inl rfl
            case e => exact Or.inl rfl
            case x99 =>
             refine' pe_op op_cat (pv 7) ?x100
             case x100 =>
              refine' pe_lst ?x101
              case x101 =>
               refine' pa_Call ?x102 ?x103
               case x102 =>
                refine' pe_listRange2 rfl rfl T.m_list rfl T.m_range ?x104
                case x104 =>
                 refine' pa_Const ?x105 ?x106
                 case x105 =>
                  exact pe_int
                 case x106 =>
                  refine' pa_BinOp ?x107 ?x108
                  case x107 =>
                   refine' pe_op op_add (pv 4) ?x109
                   case x109 =>
                    exact pe_int
                  case x108 =>
                   exact pa_nil
               case x103 =>
                refine' pa_Call ?x110 ?x111
                case x110 =>
                 refine' pe_callTy call_tuple_of rfl T.m_tuple (by decide +kernel) ?x112
                 case x112 =>
                  refine' pa_Name (pv 3) ?x113
                  case x113 =>
                   exact pa_nil
                case x111 =>
                 refine' pa_List ?x114 ?x115
                 case x114 =>
                  refine' pe_lst ?x116
                  case x116 =>
                   refine' pa_Name (pv 3) ?x117
                   case x117 =>
                    exact pa_nil
                 case x115 =>
                  refine' pa_Subscript ?x118 ?x119
                  case x118 =>
                   exact (pe_revL (pv 3))
                  case x119 =>
                   refine' pa_Call ?x120 ?x121
                   case x120 =>
                    refine' pe_callTy (cr_strL hr.gd (rep_room hr)) rfl T.m_str (by decide +kernel) ?x122
                    case x122 =>
                     refine' pa_Name (pv 3) ?x123
                     case x123 =>
                      exact pa_nil
                   case x121 =>
                    refine' pa_Call ?x124 ?x125
                    case x124 =>
                     refine' pe_dictEnum rfl rfl T.m_dict rfl T.m_enumerate ?x126
                     case x126 =>
                      refine' pa_Name (pv 3) ?x127
                      case x127 =>
                       exact pa_nil
                    case x125 =>
                     exact pa_nil
           case x98 =>
            refine' pss_one ?x128
            case x128 =>
             refine' ps_ret ?x129
             case x129 =>
              refine' pe_op op_cat (pv 7) ?x130
              case x130 =>
               refine' pe_lst ?x131
               case x131 =>
                refine' pa_Const ?x132 ?x133
                case x132 =>
                 exact pe_non
                case x133 =>
                 refine' pa_Const ?x134 ?x135
                 case x134 =>
                  exact pe_int
                 case x135 =>
                  refine' pa_Const ?x136 ?x137
                  case x136 =>
                   exact pe_bl
                  case x137 =>
                   refine' pa_Const ?x138 ?x139
                   case x138 =>
                    exact pe_str
                   case x139 =>
                    refine' pa_Tuple ?x140 ?x141
                    case x140 =>
                     refine' pe_tup ?x142
                     case x142 =>
                      exact pa_nil
                    case x141 =>
                     refine' pa_Dict ?x143 ?x144
                     case x143 =>
                      exact pe_dnewK
                     case x144 =>
                      refine' pa_Call ?x145 ?x146
                      case x145 =>
                       refine' pe_callB call_len_seq rfl T.m_len PySem.boot_len ?x147
                       case x147 =>
                        refine' pa_Name (pv 3) ?x148
                        case x148 =>
                         exact pa_nil
                      case x146 =>
                       refine' pa_List ?x149 ?x150
                       case x149 =>
                        refine' pe_lst ?x151
                        case x151 =>
                         refine' pa_Const ?x152 ?x153
                         case x152 =>
                          exact pe_non
                         case x153 =>
                          exact pa_nil
                       case x150 =>
                        refine' pa_List ?x154 ?x155
                        case x154 =>
                         refine' pe_lst ?x156
                         case x156 =>
                          refine' pa_List ?x157 ?x158
                          case x157 =>
                           refine' pe_lst ?x159
                           case x159 =>
                            exact pa_nil
                          case x158 =>
                           exact pa_nil
                        case x155 =>
                         refine' pa_List ?x160 ?x161
                         case x160 =>
                          refine' pe_lst ?x162
                          case x162 =>
                           refine' pa_Const ?x163 ?x164
                           case x163 =>
                            exact pe_str
                           case x164 =>
                            exact pa_nil
                         case x161 =>
                          refine' pa_List ?x165 ?x166
                          case x165 =>
                           refine' pe_lst ?x167
                           case x167 =>
                            refine' pa_UnaryOp ?x168 ?x169
                            case x168 =>
                             refine' pe_un un_neg ?x170
                             case x170 =>
                              exact pe_int
                            case x169 =>
                             exact pa_nil
                          case x166 =>
                           refine' pa_List ?x171 ?x172
                           case x171 =>
                            refine' pe_lst ?x173
                            case x173 =>
                             refine' pa_BinOp ?x174 ?x175
                             case x174 =>
                              refine' pe_op op_add (pv 4) ?x176
                              case x176 =>
                               exact pe_int
                             case x175 =>
                              exact pa_nil
                           case x172 =>
                            refine' pa_List ?x177 ?x178
                            case x177 =>
                             refine' pe_lst ?x179
                             case x179 =>
                              refine' pa_BinOp ?x180 ?x181
                              case x180 =>
                               refine' pe_op op_pow ?x182 ?x183
                               case x182 =>
                                exact pe_int
                               case x183 =>
                                exact pe_int
                              case x181 =>
                               exact pa_nil
                            case x178 =>
                             exact pa_nil
  case RR =>
  obtain ⟨rl, nel, pwl⟩ := id hL
  have ez := len_cps z
  have l26 := hL.len
  have el := len_cps l
  have lar := arE_len l.cps.toList z.cps.toList l.cps.toList 0
  have emap : nInt (arE l.cps.toList z.cps.toList l.cps.toList 0) = ((arE l.cps.toList z.cps.toList l.cps.toList 0).map fun k : Nat => (k : Int)).map V.int := by rw [List.map_map]; rfl
  have hsb := shB_arE z.cps.toList l.cps.toList nel z.cps.toList.length 0 (by omega) (by omega)
  rw [List.drop_zero] at hsb
  have hns : ((arE l.cps.toList z.cps.toList l.cps.toList 0).map fun k : Nat => (k : Int)).length ≤ 80 := by rw [List.length_map]; omega
  have hbd := shB_bound _ _ hsb
  have big5 : (1000 : Nat) ≤ 10 ^ 60 := by decide
  refine ⟨_, rfl, _, rfl, z, l, rfl, by omega, rl, by omega, fun a H1 s1 na ha => ?_⟩
  rw [emap] at ha
  generalize ((arE l.cps.toList z.cps.toList l.cps.toList 0).map fun k : Nat => (k : Int)) = ns at ha hns hbd
  have hsm : SmL ns := ⟨by omega, fun n hn => by have := hbd n hn; omega⟩
  have nap : a ≠ p := hD.ne na
  have hD1 := hD.same s1
  refine ⟨_, rfl, z, rfl, small80 (by omega), ?_⟩
  refine ⟨_, rfl, _, rfl, _, rfl, p, z, l, rfl, hD1, lz, hL, fun b es H2 hD2 k2 nbp hb les hes => ?_⟩
  have hse : SmL es := ⟨by omega, fun n hn => by have := hes n hn; omega⟩
  have odi : ∀ (ms : List Int), SmL ms → ∀ Hx, ∀ v ∈ ms.map V.int, Od (10 ^ 60) p Hx v := fun ms hm Hx v hv => by
    obtain ⟨i, hi, rfl⟩ := List.mem_map.mp hv
    exact .int i (by have := hm.2 i hi; omega)
  have smcut : ∀ (ms : List Int), SmL ms → ∀ lo hi, ∃ ks : List Int, cutV (ms.map V.int) lo hi = ks.map V.int ∧ SmL ks ∧ ks.length ≤ ms.length := fun ms hm lo hi => by
    refine ⟨(ms.drop (HT.sIx (ms.map V.int).length 0 lo)).take (HT.sIx (ms.map V.int).length (ms.map V.int).length hi - HT.sIx (ms.map V.int).length 0 lo), ?_, ⟨?_, fun n hn => hm.2 n (List.mem_of_mem_drop (List.mem_of_mem_take hn))⟩, ?_⟩
    · unfold cutV; rw [List.map_take, List.map_drop]
    · rw [List.length_take, List.length_drop]; have := hm.1; omega
    · rw [List.length_take, List.length_drop]; omega
  have hz80 : (z.length : Int).natAbs ≤ 80 := by omega
  refine ⟨_, rfl, _, rfl, _, rfl, p, a, ns.map V.int, (z.length : Int), 10 ^ 60, rfl, hD2, k2 _ _ ha nap, nap, odi ns hsm _, by rw [List.length_map]; omega, by omega, by omega, Nat.le_refl _, fun c ys G0 D0 k3 ec pc mc oc lc fc => ?_⟩
  rw [List.length_map] at lc
  have ha3 := k3 _ _ (k2 _ _ ha nap) nap
  have hb3 := k3 _ _ hb nbp
  have F0 : Kp p G0 G0 := Kp.refl p G0
  have KH : Kp p H G0 := (s1.kp p).trans (k2.trans k3)
  have small : ∀ k : Nat, k ≤ 4000 → k ≤ sizeLine := fun k hk => Nat.le_trans hk (by decide)
  have t0a : Thg p G0 (.ref a) := thg_ints ha3 nap hsm
  have t0b : Thg p G0 (.ref b) := thg_ints hb3 nbp hse
  have t0c : Thg p G0 (.ref c) := thg_ods (m := 10 ^ 60 + 2) (by decide) ec pc mc oc (by omega)
  obtain ⟨ks1, hk1, sk1, lk1⟩ := smcut ns hsm none (some (-1))
  obtain ⟨ks2, hk2, sk2, lk2⟩ := smcut ns hsm (some 1) none
  refine ⟨_, rfl, _, rfl, _, rfl, 1, rfl, _, rfl, a, _, rfl, SqL.of ha3, fun v1 nv1 => ?_⟩
  generalize j1 : upd _ v1 _ = G1
  have s1 := upS j1 nv1; have e1 := upE j1
  have g1 := s1.kp p; have F1 := F0.trans g1; have D1 := D0.same s1; have p1 : v1 ≠ p := D0.ne nv1; have a1 := F1 _ _ ha3 nap
  have q1 : G1 v1 = some (.lst ((ks1).map V.int)) := e1.trans (congrArg (fun q => some (HO.lst q)) hk1)
  have sm1 : SmL (ks1) := sk1
  refine ⟨_, rfl, _, rfl, a, _, rfl, SqL.of a1, fun v2 nv2 => ?_⟩
  generalize j2 : upd _ v2 _ = G2
  have s2 := upS j2 nv2; have e2 := upE j2
  have g2 := s2.kp p; have F2 := F1.trans g2; have D2 := D1.same s2; have p2 : v2 ≠ p := D1.ne nv2; have a2 := F2 _ _ ha3 nap
  have q2 : G2 v2 = some (.lst ((ks2).map V.int)) := e2.trans (congrArg (fun q => some (HO.lst q)) hk2)
  have sm2 : SmL (ks2) := sk2
  refine ⟨(by show 0 ≤ sizeLine; decide), fun v3 nv3 => ?_⟩
  generalize j3 : upd _ v3 _ = G3
  have s3 := upS j3 nv3; have e3 := upE j3
  have g3 := s3.kp p; have F3 := F2.trans g3; have D3 := D2.same s3; have p3 : v3 ≠ p := D2.ne nv3; have a3 := F3 _ _ ha3 nap
  have q3 : G3 v3 = some (.lst (([]).map V.int)) := e3.trans (congrArg (fun q => some (HO.lst q)) rfl)
  have sm3 : SmL ([]) := .none
  refine ⟨_, rfl, 1, rfl, _, rfl, a, _, rfl, SqL.of a3, fun v4 nv4 => ?_⟩
  generalize j4 : upd _ v4 _ = G4
  have s4 := upS j4 nv4; have e4 := upE j4
  have g4 := s4.kp p; have F4 := F3.trans g4; have D4 := D3.same s4; have p4 : v4 ≠ p := D3.ne nv4; have a4 := F4 _ _ ha3 nap
  have q4 : G4 v4 = some (.lst ((ks1).map V.int)) := e4.trans (congrArg (fun q => some (HO.lst q)) hk1)
  have sm4 : SmL (ks1) := sk1
  refine ⟨_, rfl, (by show 1 ≤ sizeLine; decide), fun v5 nv5 => ?_⟩
  generalize j5 : upd _ v5 _ = G5
  have s5 := upS j5 nv5; have e5 := upE j5
  have g5 := s5.kp p; have F5 := F4.trans g5; have D5 := D4.same s5; have p5 : v5 ≠ p := D4.ne nv5; have a5 := F5 _ _ ha3 nap
  have q5 : G5 v5 = some (.lst (([(z.length : Int)]).map V.int)) := e5.trans (congrArg (fun q => some (HO.lst q)) rfl)
  have sm5 : SmL ([(z.length : Int)]) := .one (by omega)
  refine ⟨v4, v5, _, _, rfl, rfl, s5 _ _ q4, q5, small _ (by rw [List.length_map]; show ks1.length + 1 ≤ 4000; omega), fun v6 nv6 => ?_⟩
  generalize j6 : upd _ v6 _ = G6
  have s6 := upS j6 nv6; have e6 := upE j6
  have g6 := s6.kp p; have F6 := F5.trans g6; have D6 := D5.same s6; have p6 : v6 ≠ p := D5.ne nv6; have a6 := F6 _ _ ha3 nap
  have q6 : G6 v6 = some (.lst ((ks1 ++ [(z.length : Int)]).map V.int)) := e6.trans (congrArg (fun q => some (HO.lst q)) (map_snoc _ _))
  have sm6 : SmL (ks1 ++ [(z.length : Int)]) := sk1.snoc (by omega) (by omega)
  refine ⟨_, rfl, _, rfl, (by show 1 ≤ sizeLine; decide), fun v7 nv7 => ?_⟩
  generalize j7 : upd _ v7 _ = G7
  have s7 := upS j7 nv7; have e7 := upE j7
  have g7 := s7.kp p; have F7 := F6.trans g7; have D7 := D6.same s7; have p7 : v7 ≠ p := D6.ne nv7; have a7 := F7 _ _ ha3 nap
  have q7 : G7 v7 = some (.lst (([(z.length : Int)]).map V.int)) := e7.trans (congrArg (fun q => some (HO.lst q)) rfl)
  have sm7 : SmL ([(z.length : Int)]) := .one (by omega)
  refine ⟨a, v7, _, _, rfl, rfl, a7, q7, small _ (by rw [List.length_map]; show ns.length + 1 ≤ 4000; omega), fun v8 nv8 => ?_⟩
  generalize j8 : upd _ v8 _ = G8
  have s8 := upS j8 nv8; have e8 := upE j8
  have g8 := s8.kp p; have F8 := F7.trans g8; have D8 := D7.same s8; have p8 : v8 ≠ p := D7.ne nv8; have a8 := F8 _ _ ha3 nap
  have q8 : G8 v8 = some (.lst ((ns ++ [(z.length : Int)]).map V.int)) := e8.trans (congrArg (fun q => some (HO.lst q)) (map_snoc _ _))
  have sm8 : SmL (ns ++ [(z.length : Int)]) := hsm.snoc (by omega) (by omega)
  refine ⟨_, rfl, (by show 1 ≤ sizeLine; decide), fun v9 nv9 => ?_⟩
  generalize j9 : upd _ v9 _ = G9
  have s9 := upS j9 nv9; have e9 := upE j9
  have g9 := s9.kp p; have F9 := F8.trans g9; have D9 := D8.same s9; have p9 : v9 ≠ p := D8.ne nv9; have a9 := F9 _ _ ha3 nap
  have q9 : G9 v9 = some (.lst (([(z.length : Int)]).map V.int)) := e9.trans (congrArg (fun q => some (HO.lst q)) rfl)
  have sm9 : SmL ([(z.length : Int)]) := .one (by omega)
  refine ⟨(by show 1 ≤ sizeLine; decide), fun v10 nv10 => ?_⟩
  generalize j10 : upd _ v10 _ = G10
  have s10 := upS j10 nv10; have e10 := upE j10
  have g10 := s10.kp p; have F10 := F9.trans g10; have D10 := D9.same s10; have p10 : v10 ≠ p := D9.ne nv10; have a10 := F10 _ _ ha3 nap
  have q10 : G10 v10 = some (.lst (([0]).map V.int)) := e10.trans (congrArg (fun q => some (HO.lst q)) rfl)
  have sm10 : SmL ([0]) := .one (by decide)
  refine ⟨(by show 1 ≤ sizeLine; decide), fun v11 nv11 => ?_⟩
  generalize j11 : upd _ v11 _ = G11
  have s11 := upS j11 nv11; have e11 := upE j11
  have g11 := s11.kp p; have F11 := F10.trans g11; have D11 := D10.same s11; have p11 : v11 ≠ p := D10.ne nv11; have a11 := F11 _ _ ha3 nap
  have q11 : G11 v11 = some (.lst (([1]).map V.int)) := e11.trans (congrArg (fun q => some (HO.lst q)) rfl)
  have sm11 : SmL ([1]) := .one (by decide)
  refine ⟨(by show 1 ≤ sizeLine; decide), fun v12 nv12 => ?_⟩
  generalize j12 : upd _ v12 _ = G12
  have s12 := upS j12 nv12; have e12 := upE j12
  have g12 := s12.kp p; have F12 := F11.trans g12; have D12 := D11.same s12; have p12 : v12 ≠ p := D11.ne nv12; have a12 := F12 _ _ ha3 nap
  have t12 : Thg p G12 (.ref v12) := thg_one e12 p12 (.bl true) ⟨by decide +kernel, (fun h => absurd h (by decide +kernel)), by decide +kernel, by decide +kernel⟩
  have t1 : Thg p G1 (.ref v1) := thg_ints q1 p1 sm1
  have t2 : Thg p G2 (.ref v2) := thg_ints q2 p2 sm2
  have t3 : Thg p G3 (.ref v3) := thg_ints q3 p3 sm3
  have t6 : Thg p G6 (.ref v6) := thg_ints q6 p6 sm6
  have t8 : Thg p G8 (.ref v8) := thg_ints q8 p8 sm8
  have t9 : Thg p G9 (.ref v9) := thg_ints q9 p9 sm9
  have t10 : Thg p G10 (.ref v10) := thg_ints q10 p10 sm10
  have t11 : Thg p G11 (.ref v11) := thg_ints q11 p11 sm11
  refine ⟨(by show 11 ≤ sizeLine; decide), fun v13 nv13 => ?_⟩
  generalize j13 : upd _ v13 _ = G13
  have s13 := upS j13 nv13; have e13 := upE j13
  have g13 := s13.kp p; have F13 := F12.trans g13; have D13 := D12.same s13; have p13 : v13 ≠ p := D12.ne nv13; have a13 := F13 _ _ ha3 nap
  have c13 := F13 _ _ ec pc
  refine ⟨_, rfl, _, rfl, _, rfl, _, rfl, _, rfl, p, c, ys, (z.length : Int), 10 ^ 60 + 2, rfl, D13, c13, pc, (fun v hv => (oc v hv).kp F13), by omega, by omega, by omega, by omega, fun v14 ys14 G14 D14 g14 e14 p14 m14 o14 l14 f14 => ?_⟩
  have F14 := F13.trans g14; have a14 := F14 _ _ ha3 nap
  have t14 : Thg p G14 (.ref v14) := thg_ods (m := 10 ^ 60 + 2 + 2) (by decide) e14 p14 m14 o14 (by omega)
  have b14 := F14 _ _ hb3 nbp
  refine ⟨_, rfl, _, rfl, _, rfl, p, b, es.map V.int, (z.length : Int), 10 ^ 60, rfl, D14, b14, nbp, odi es hse _, by rw [List.length_map]; omega, by omega, by omega, Nat.le_refl _, fun v15 ys15 G15 D15 g15 e15 p15 m15 o15 l15 f15 => ?_⟩
  have F15 := F14.trans g15; have a15 := F15 _ _ ha3 nap
  rw [List.length_map] at l15
  have t15 : Thg p G15 (.ref v15) := thg_ods (m := 10 ^ 60 + 2) (by decide) e15 p15 m15 o15 (by omega)
  refine ⟨(by show 3 ≤ sizeLine; decide), fun v16 nv16 => ?_⟩
  generalize j16 : upd _ v16 _ = G16
  have s16 := upS j16 nv16; have e16 := upE j16
  have g16 := s16.kp p; have F16 := F15.trans g16; have D16 := D15.same s16; have p16 : v16 ≠ p := D15.ne nv16; have a16 := F16 _ _ ha3 nap
  have e13x := s16 _ _ (g15 _ _ (g14 _ _ e13 p13) p13)
  refine ⟨v13, v16, _, _, rfl, rfl, e13x, e16, (by show 14 ≤ sizeLine; decide), fun v17 nv17 => ?_⟩
  generalize j17 : upd _ v17 _ = G17
  have s17 := upS j17 nv17; have e17 := upE j17
  have g17 := s17.kp p; have F17 := F16.trans g17; have D17 := D16.same s17; have p17 : v17 ≠ p := D16.ne nv17; have a17 := F17 _ _ ha3 nap
  have K16 : Kp p G16 G16 := Kp.refl p _
  have K15 : Kp p G15 G16 := g16.trans K16
  have K14 : Kp p G14 G16 := g15.trans K15
  have K13 : Kp p G13 G16 := g14.trans K14
  have K12 : Kp p G12 G16 := g13.trans K13
  have K11 : Kp p G11 G16 := g12.trans K12
  have K10 : Kp p G10 G16 := g11.trans K11
  have K9 : Kp p G9 G16 := g10.trans K10
  have K8 : Kp p G8 G16 := g9.trans K9
  have K7 : Kp p G7 G16 := g8.trans K8
  have K6 : Kp p G6 G16 := g7.trans K7
  have K5 : Kp p G5 G16 := g6.trans K6
  have K4 : Kp p G4 G16 := g5.trans K5
  have K3 : Kp p G3 G16 := g4.trans K4
  have K2 : Kp p G2 G16 := g3.trans K3
  have K1 : Kp p G1 G16 := g2.trans K2
  have K0 : Kp p G0 G16 := g1.trans K1
  have allA : ∀ x ∈ ([.ref a, .ref b, .ref v1, .ref v2, .ref v3, .ref v6, .ref v8, .ref v9, .ref v10, .ref v11, .ref v12, .ref c, .ref v14, .ref v15] : List V), Thg p G16 x := by
    intro x hx
    simp only [List.mem_cons, List.not_mem_nil, or_false] at hx
    rcases hx with rfl | rfl | rfl | rfl | rfl | rfl | rfl | rfl | rfl | rfl | rfl | rfl | rfl | rfl
    · exact t0a.kp K0
    · exact t0b.kp K0
    · exact t1.kp K1
    · exact t2.kp K2
    · exact t3.kp K3
    · exact t6.kp K6
    · exact t8.kp K8
    · exact t9.kp K9
    · exact t10.kp K10
    · exact t11.kp K11
    · exact t12.kp K12
    · exact t0c.kp K0
    · exact t14.kp K14
    · exact t15.kp K15
  refine ⟨_, rfl, .inl ⟨rfl, _, SqL.of e17⟩, _, rfl, _, rfl, _, rfl, p, a, ns.map V.int, (z.length : Int), 10 ^ 60, rfl, D17, a17, nap, odi ns hsm _, by rw [List.length_map]; omega, by omega, by omega, Nat.le_refl _, fun v18 ys18 G18 D18 g18 e18 p18 m18 o18 l18 f18 => ?_⟩
  have F18 := F17.trans g18; have a18 := F18 _ _ ha3 nap
  rw [List.length_map] at l18
  have e17x := g18 _ _ e17 p17
  refine ⟨v17, _, _, rfl, rfl, e17x, by show 14 < sizeLine; decide, ?_⟩
  have n17 : v18 ≠ v17 := fun h => by rw [h, e17] at f18; cases f18
  have t18 : Thg p (upd G18 v17 (.lst (([.ref a, .ref b, .ref v1, .ref v2, .ref v3, .ref v6, .ref v8, .ref v9, .ref v10, .ref v11, .ref v12] ++ [.ref c, .ref v14, .ref v15]) ++ [.ref v18]))) (.ref v18) := thg_ods (m := 10 ^ 60 + 2) (by decide) ((upd_ne n17).trans e18) p18 m18 (fun v hv => (o18 v hv).over e17x (by intro h; cases h)) (by omega)
  have g19 : Kp p G16 (upd G18 v17 (.lst (([.ref a, .ref b, .ref v1, .ref v2, .ref v3, .ref v6, .ref v8, .ref v9, .ref v10, .ref v11, .ref v12] ++ [.ref c, .ref v14, .ref v15]) ++ [.ref v18]))) := (g17.trans g18).over nv17
  have D19 := D18.over p17 (o := .lst (([.ref a, .ref b, .ref v1, .ref v2, .ref v3, .ref v6, .ref v8, .ref v9, .ref v10, .ref v11, .ref v12] ++ [.ref c, .ref v14, .ref v15]) ++ [.ref v18]))
  generalize j19 : upd G18 v17 _ = G19 at t18 g19 D19 ⊢
  have e19 : G19 v17 = some (.lst (([.ref a, .ref b, .ref v1, .ref v2, .ref v3, .ref v6, .ref v8, .ref v9, .ref v10, .ref v11, .ref v12] ++ [.ref c, .ref v14, .ref v15]) ++ [.ref v18])) := by rw [← j19]; exact upd_same
  have a19 := g19 _ _ a16 nap
  have F19 := F16.trans g19
  refine ⟨_, rfl, _, rfl, _, _, rfl, rfl, z.length, rfl, (by omega), fun v20 nv20 => ?_⟩
  generalize j20 : upd _ v20 _ = G20
  have s20 := upS j20 nv20; have e20 := upE j20
  have g20 := s20.kp p; have F20 := F19.trans g20; have D20 := D19.same s20; have p20 : v20 ≠ p := D19.ne nv20; have a20 := F20 _ _ ha3 nap
  refine ⟨_, rfl, a, _, rfl, .inl ⟨SqL.of a20, fun v21 nv21 => ?_⟩⟩
  generalize j21 : upd _ v21 _ = G21
  have s21 := upS j21 nv21; have e21 := upE j21
  have g21 := s21.kp p; have F21 := F20.trans g21; have D21 := D20.same s21; have p21 : v21 ≠ p := D20.ne nv21; have a21 := F21 _ _ ha3 nap
  refine ⟨_, rfl, (by show 1 ≤ sizeLine; decide), fun v22 nv22 => ?_⟩
  generalize j22 : upd _ v22 _ = G22
  have s22 := upS j22 nv22; have e22 := upE j22
  have g22 := s22.kp p; have F22 := F21.trans g22; have D22 := D21.same s22; have p22 : v22 ≠ p := D21.ne nv22; have a22 := F22 _ _ ha3 nap
  refine ⟨_, rfl, a, _, rfl, SqL.of a22, fun v23 nv23 => ?_⟩
  generalize j23 : upd _ v23 _ = G23
  have s23 := upS j23 nv23; have e23 := upE j23
  have g23 := s23.kp p; have F23 := F22.trans g23; have D23 := D22.same s23; have p23 : v23 ≠ p := D22.ne nv23; have a23 := F23 _ _ ha3 nap
  have q23 : G23 v23 = some (.lst ((ns.reverse).map V.int)) := e23.trans (congrArg (fun q => some (HO.lst q)) (by rw [List.map_reverse]))
  have sm23 : SmL (ns.reverse) := hsm.rev
  refine ⟨_, rfl, false, p, a, _, rfl, .lst a23 nap (fun z => nomatch z) (tgAll_ints ns), hsm.list, _, rfl, a, ns, rfl, a23, fun v24 nv24 => ?_⟩
  generalize j24 : upd _ v24 _ = G24
  have s24 := upS j24 nv24; have e24 := upE j24
  have g24 := s24.kp p; have F24 := F23.trans g24; have D24 := D23.same s24; have p24 : v24 ≠ p := D23.ne nv24; have a24 := F24 _ _ ha3 nap
  refine ⟨(by show 6 ≤ sizeLine; decide), fun v25 nv25 => ?_⟩
  generalize j25 : upd _ v25 _ = G25
  have s25 := upS j25 nv25; have e25 := upE j25
  have g25 := s25.kp p; have F25 := F24.trans g25; have D25 := D24.same s25; have p25 : v25 ≠ p := D24.ne nv25; have a25 := F25 _ _ ha3 nap
  have e19x := s25 _ _ (s24 _ _ (s23 _ _ (s22 _ _ (s21 _ _ (s20 _ _ e19)))))
  refine ⟨v17, v25, _, _, rfl, rfl, e19x, e25, (by show 21 ≤ sizeLine; decide), fun v26 nv26 => ?_⟩
  generalize j26 : upd _ v26 _ = G26
  have s26 := upS j26 nv26; have e26 := upE j26
  have g26 := s26.kp p; have F26 := F25.trans g26; have D26 := D25.same s26; have p26 : v26 ≠ p := D25.ne nv26; have a26 := F26 _ _ ha3 nap
  have t20 : Thg p G20 (.ref v20) := thg_ints e20 p20 (smFrom _ (by omega))
  have t21 : Thg p G21 (.ref v21) := thg_tup e21 p21 hsm
  have t22 : Thg p G22 (.ref v22) := thg_nest e22 p22 a22 nap hsm
  have t23 : Thg p G23 (.ref v23) := thg_ints q23 p23 sm23
  have t24 : Thg p G24 (.ref v24) := thg_dict e24 p24 hsm
  refine ⟨_, rfl, (by show 0 ≤ sizeLine; decide), fun v27 nv27 => ?_⟩
  generalize j27 : upd _ v27 _ = G27
  have s27 := upS j27 nv27; have e27 := upE j27
  have g27 := s27.kp p; have F27 := F26.trans g27; have D27 := D26.same s27; have p27 : v27 ≠ p := D26.ne nv27; have a27 := F27 _ _ ha3 nap
  delta tCons tDNewK
  dsimp only
  intro v28 nv28
  generalize j28 : upd _ v28 _ = G28
  have s28 := upS j28 nv28; have e28 := upE j28
  have g28 := s28.kp p; have F28 := F27.trans g28; have D28 := D27.same s28; have p28 : v28 ≠ p := D27.ne nv28; have a28 := F28 _ _ ha3 nap
  refine ⟨_, rfl, a, _, rfl, .inl (SqL.of a28), (by show 1 ≤ sizeLine; decide), fun v29 nv29 => ?_⟩
  generalize j29 : upd _ v29 _ = G29
  have s29 := upS j29 nv29; have e29 := upE j29
  have g29 := s29.kp p; have F29 := F28.trans g29; have D29 := D28.same s29; have p29 : v29 ≠ p := D28.ne nv29; have a29 := F29 _ _ ha3 nap
  refine ⟨(by show 0 ≤ sizeLine; decide), fun v30 nv30 => ?_⟩
  generalize j30 : upd _ v30 _ = G30
  have s30 := upS j30 nv30; have e30 := upE j30
  have g30 := s30.kp p; have F30 := F29.trans g30; have D30 := D29.same s30; have p30 : v30 ≠ p := D29.ne nv30; have a30 := F30 _ _ ha3 nap
  refine ⟨(by show 1 ≤ sizeLine; decide), fun v31 nv31 => ?_⟩
  generalize j31 : upd _ v31 _ = G31
  have s31 := upS j31 nv31; have e31 := upE j31
  have g31 := s31.kp p; have F31 := F30.trans g31; have D31 := D30.same s31; have p31 : v31 ≠ p := D30.ne nv31; have a31 := F31 _ _ ha3 nap
  refine ⟨(by show 1 ≤ sizeLine; decide), fun v32 nv32 => ?_⟩
  generalize j32 : upd _ v32 _ = G32
  have s32 := upS j32 nv32; have e32 := upE j32
  have g32 := s32.kp p; have F32 := F31.trans g32; have D32 := D31.same s32; have p32 : v32 ≠ p := D31.ne nv32; have a32 := F32 _ _ ha3 nap
  refine ⟨1, rfl, (by show 1 ≤ sizeLine; decide), fun v33 nv33 => ?_⟩
  generalize j33 : upd _ v33 _ = G33
  have s33 := upS j33 nv33; have e33 := upE j33
  have g33 := s33.kp p; have F33 := F32.trans g33; have D33 := D32.same s33; have p33 : v33 ≠ p := D32.ne nv33; have a33 := F33 _ _ ha3 nap
  refine ⟨_, rfl, _, _, rfl, rfl, (by show 1 ≤ sizeLine; decide), fun v34 nv34 => ?_⟩
  generalize j34 : upd _ v34 _ = G34
  have s34 := upS j34 nv34; have e34 := upE j34
  have g34 := s34.kp p; have F34 := F33.trans g34; have D34 := D33.same s34; have p34 : v34 ≠ p := D33.ne nv34; have a34 := F34 _ _ ha3 nap
  refine ⟨10, 60, rfl, rfl, ⟨by decide, by decide, by decide⟩, (by show 1 ≤ sizeLine; decide), fun v35 nv35 => ?_⟩
  generalize j35 : upd _ v35 _ = G35
  have s35 := upS j35 nv35; have e35 := upE j35
  have g35 := s35.kp p; have F35 := F34.trans g35; have D35 := D34.same s35; have p35 : v35 ≠ p := D34.ne nv35; have a35 := F35 _ _ ha3 nap
  refine ⟨(by show 13 ≤ sizeLine; decide), fun v36 nv36 => ?_⟩
  generalize j36 : upd _ v36 _ = G36
  have s36 := upS j36 nv36; have e36 := upE j36
  have g36 := s36.kp p; have F36 := F35.trans g36; have D36 := D35.same s36; have p36 : v36 ≠ p := D35.ne nv36; have a36 := F36 _ _ ha3 nap
  have e26x := s36 _ _ (s35 _ _ (s34 _ _ (s33 _ _ (s32 _ _ (s31 _ _ (s30 _ _ (s29 _ _ (s28 _ _ (s27 _ _ e26)))))))))
  refine ⟨v26, v36, _, _, rfl, rfl, e26x, e36, (by show 34 ≤ sizeLine; decide), fun v37 nv37 => ?_⟩
  generalize j37 : upd _ v37 _ = G37
  have s37 := upS j37 nv37; have e37 := upE j37
  have g37 := s37.kp p; have F37 := F36.trans g37; have D37 := D36.same s37; have p37 : v37 ≠ p := D36.ne nv37; have a37 := F37 _ _ ha3 nap
  have big60 : (10 : Nat) ^ 60 < 10 ^ 100 := by decide
  have shw1 : ∀ d : PyData, d.showable = true → d.hasDict = false → d.depth ≤ 2 → d.shown.length ≤ 200 → Shw false (.list [d]) := fun d h1 h2 h3 h4 => by
    refine ⟨by show (d.showable && true) = true; rw [h1]; rfl, (fun e => ?_), by show max d.depth 0 + 1 ≤ 8; omega, ?_⟩
    · have e : (d.hasDict || false) = true := e
      rw [h2] at e; cases e
    · have h5 := listText_len_le (PyData.shownAll [d])
      have e5 : ((PyData.shownAll [d]).map (·.length)).sum + 2 * (PyData.shownAll [d]).length = d.shown.length + 0 + 2 := rfl
      rw [e5] at h5
      exact Nat.le_trans h5 (Nat.le_trans (show d.shown.length + 0 + 2 + 3 ≤ 1000 by omega) (by decide))
  have t27 : Thg p G27 (.ref v27) := thg_tup (ns := []) e27 p27 .none
  have t28 : Thg p G28 (.ref v28) := thg_dict (ns := []) e28 p28 .none
  have t29 : Thg p G29 (.ref v29) := thg_one e29 p29 .non (shw1 _ rfl rfl (by decide) (by decide +kernel))
  have t31 : Thg p G31 (.ref v31) := thg_nest (ns := []) e31 p31 (s31 _ _ e30) p30 .none
  have t32 : Thg p G32 (.ref v32) := thg_one e32 p32 (.str _) (shw1 _ rfl rfl (by decide) (by decide +kernel))
  have t33 : Thg p G33 (.ref v33) := thg_ints (ns := [-1]) e33 p33 (.one (by decide))
  have t34 : Thg p G34 (.ref v34) := thg_ints (ns := [(z.length : Int) + 1]) e34 p34 (.one (by omega))
  have b60 : ((10 : Int) ^ Int.toNat 60).natAbs ≤ 10 ^ 60 := by decide
  have t35 : Thg p G35 (.ref v35) := thg_one e35 p35 (.int _) (shw1 _ (decide_eq_true (big_log b60 big60)) rfl (by decide) (Nat.le_trans (big_shown b60 big60) (by decide)))
  have K37 : Kp p G37 G37 := Kp.refl p _
  have K36x : Kp p G36 G37 := g37.trans K37
  have K35x : Kp p G35 G37 := g36.trans K36x
  have K34x : Kp p G34 G37 := g35.trans K35x
  have K33x : Kp p G33 G37 := g34.trans K34x
  have K32x : Kp p G32 G37 := g33.trans K33x
  have K31x : Kp p G31 G37 := g32.trans K32x
  have K30x : Kp p G30 G37 := g31.trans K31x
  have K29x : Kp p G29 G37 := g30.trans K30x
  have K28x : Kp p G28 G37 := g29.trans K29x
  have K27x : Kp p G27 G37 := g28.trans K28x
  have K26x : Kp p G26 G37 := g27.trans K27x
  have K25x : Kp p G25 G37 := g26.trans K26x
  have K24x : Kp p G24 G37 := g25.trans K25x
  have K23x : Kp p G23 G37 := g24.trans K24x
  have K22x : Kp p G22 G37 := g23.trans K23x
  have K21x : Kp p G21 G37 := g22.trans K22x
  have K20x : Kp p G20 G37 := g21.trans K21x
  have K19x : Kp p G19 G37 := g20.trans K20x
  have KF : Kp p H G37 := KH.trans F37
  refine q v37 _ G37 D37 KF e37 p37 (by show 34 ≤ 100; decide) ?_
  intro x hx
  rcases List.mem_append.mp hx with hx | hx
  · rcases List.mem_append.mp hx with hx | hx
    · rcases List.mem_append.mp hx with hx | hx
      · exact ((allA x hx).kp g19).kp K19x
      · rw [List.mem_singleton.mp hx]; exact t18.kp K19x
    · skip
      simp only [List.mem_cons, List.not_mem_nil, or_false] at hx
      rcases hx with rfl | rfl | rfl | rfl | rfl | rfl
      · exact t20.kp K20x
      · exact t21.kp K21x
      · exact t22.kp K22x
      · exact t23.kp K23x
      · exact thg_text hsm
      · exact t24.kp K24x
  · skip
    simp only [List.mem_cons, List.not_mem_nil, or_false] at hx
    rcases hx with rfl | rfl | rfl | rfl | rfl | rfl | rfl | rfl | rfl | rfl | rfl | rfl | rfl
    · exact ⟨false, _, .non, ⟨rfl, (fun e => nomatch e), by decide, by decide +kernel⟩⟩
    · exact thg_int (by decide)
    · exact ⟨false, _, .bl _, ⟨rfl, (fun e => nomatch e), by decide, by decide +kernel⟩⟩
    · exact ⟨false, _, .str _, ⟨rfl, (fun e => nomatch e), by decide, by decide +kernel⟩⟩
    · exact t27.kp K27x
    · exact t28.kp K28x
    · exact thg_int (by rw [List.length_map]; omega)
    · exact t29.kp K29x
    · exact t31.kp K31x
    · exact t32.kp K32x
    · exact t33.kp K33x
    · exact t34.kp K34x
    · exact t35.kp K35x
end
end Lv
set_option Elab.async false
set_option linter.all false
set_option maxRecDepth 100000
set_option maxHeartbeats 8000000
namespace Lv
open PySem L2
section
variable {P : Program} {w : World} {K : PySem.W.Frag} {mg : Str → Option Value} {base : Heap} {f : Addr} {fd : FuncData}
abbrev sLawRight : Stmt := top 25
def nLawRight : List Str := ["row", "letters", "thing", "due", "kept", "again", "found"]
theorem scLawRight : FnScope nLawRight ["row", "letters", "thing"] (defScope sLawRight) := ⟨rfl, rfl, rfl, by decide +kernel, rfl, by decide +kernel, by decide +kernel⟩
theorem ok_rightT (T : Glb mg) {t1 t2 t3 : Addr} (c_shows : Callee P w K mg base 3 "shows" ["row", "letters", "thing"] (spShowsV K t1 t2 t3)) (c_law_shown : Callee P w K mg base 1 "_law_shown" ["row", "letters", "thing"] (spShownV K)) (c_law_whole : Callee P w K mg base 1 "_law_whole" ["thing"] spWhole1) (F : Fun K "_law_right" "_law_right" sLawRight f fd) : FnOk P w K mg base CX0 4 f fd ["row", "letters", "thing"] (spRightT t1 t2 t3) := by
  refine F.ok scLawRight (fun vs H Q E h => ?_) (fun cdv A outer s H vs Q E hr h => ?_)
  · obtain ⟨z, l, x, p, rfl, _⟩ := h
    rfl
  obtain ⟨z, l, x, p, rfl, hz, hl, hT, h1, h2, h3, q⟩ := h
  have hu := hu_of hr
  refine' ⟨_, ?TT, ?RR⟩
  case TT =>
    refine' pss_cons ?x413 ?x414
    case x413 =>
     refine' ps_set (i := 3) scLawRight.nd rfl (Or.inl rfl) ?x415
     case x415 =>
      refine' pe_callC c_law_shown hr rfl ?x416
      case x416 =>
       refine' pa_Name (pv 0) ?x417
       case x417 =>
        refine' pa_Name (pv 1) ?x418
        case x418 =>
         refine' pa_Name (pv 2) ?x419
         case x419 =>
          exact pa_nil
    case x414 =>
     refine' pss_cons ?x420 ?x421
     case x420 =>
      refine' ps_set (i := 4) scLawRight.nd rfl (Or.inl rfl) ?x422
      case x422 =>
       refine' pe_callB (cr_reprT hr.gd (rep_room hr)) rfl T.m_repr (by decide +kernel) ?x423
       case x423 =>
        refine' pa_Name (pv 2) ?x424
        case x424 =>
         exact pa_nil
     case x421 =>
      refine' pss_cons ?x425 ?x426
      case x425 =>
       refine' ps_for PassesOwn.never rfl ?x427 (pg_name (i := 5) scLawRight.nd rfl (Or.inl rfl)) ?x428
       case x427 =>
        refine' pi_range1 rfl T.m_range ?x429
        case x429 =>
         refine' pa_Const ?x430 ?x431
         case x430 =>
          exact pe_int
         case x431 =>
          exact pa_nil
       case x428 =>
        refine' pss_cons ?x432 ?x433
        case x432 =>
         refine' ps_set (i := 6) scLawRight.nd rfl (Or.inl rfl) ?x434
         case x434 =>
          refine' pe_callC c_shows hr rfl ?x435
          case x435 =>
           refine' pa_Name (pv 0) ?x436
           case x436 =>
            refine' pa_Name (pv 1) ?x437
            case x437 =>
             refine' pa_Name (pv 2) ?x438
             case x438 =>
              exact pa_nil
        case x433 =>
         refine' pss_cons ?x439 ?x440
         case x439 =>
          refine' ps_if ?x441 ?x442 ?x443
          case x441 =>
           refine' PW.pt ?x444
           case x444 =>
            refine' pw_or ?x445 ?x446
            case x445 =>
             refine' pt_cmpR op_ne ?x447 (pv 4) (nomark _)
             case x447 =>
              refine' pe_callB (cr_reprT hr.gd (rep_room hr)) rfl T.m_repr (by decide +kernel) ?x448
              case x448 =>
               refine' pa_Name (pv 2) ?x449
               case x449 =>
                exact pa_nil
            case x446 =>
             refine' pw_or1 ?x450
             case x450 =>
              refine' pt_cmpR op_ne ?x451 ?x452 (nomark _)
              case x451 =>
               refine' pe_cmpR op_isN (pv 6) ?x453 (nomark _)
               case x453 =>
                exact pe_non
              case x452 =>
               refine' pe_cmpR op_isN (pv 3) ?x454 (nomark _)
               case x454 =>
                exact pe_non
          case x442 =>
           refine' pss_one ?x455
           case x455 =>
            refine' ps_ret ?x456
            case x456 =>
             exact pe_bl
          case x443 =>
           exact pss_nil
         case x440 =>
          refine' pss_one ?x457
          case x457 =>
           refine' ps_if ?x458 ?x459 ?x460
           case x458 =>
            refine' PW.pt ?x461
            case x461 =>
             refine' pw_and ?x462 ?x463
             case x462 =>
              refine' pt_cmpR op_notN (pv 3) ?x464 (nomark _)
              case x464 =>
               exact pe_non
             case x463 =>
              refine' pw_and1 ?x465
              case x465 =>
               refine' PW.pt ?x466
               case x466 =>
                refine' pw_or ?x467 ?x468
                case x467 =>
                 refine' pt_not ?x469
                 case x469 =>
                  refine' pt_val ?x470
                  case x470 =>
                   refine' pe_callC c_law_whole hr rfl ?x471
                   case x471 =>
                    refine' pa_Name (pv 6) ?x472
                    case x472 =>
                     exact pa_nil
                case x468 =>
                 refine' pw_or1 ?x473
                 case x473 =>
                  exact (pt_cmpR (op_neD hr.units) (pv 6) (pv 3) (nomark _))
           case x459 =>
            refine' pss_one ?x474
            case x474 =>
             refine' ps_ret ?x475
             case x475 =>
              exact pe_bl
           case x460 =>
            exact pss_nil
      case x426 =>
       refine' pss_one ?x476
       case x476 =>
        refine' ps_ret ?x477
        case x477 =>
         exact pe_bl
  case RR =>
  obtain ⟨n, d, ht, hsh⟩ := hT
  have due : ∃ dv : V, (dv = .non ∨ ∃ k : Int, dv = .int k) ∧ (∀ (H1 : Hp) (Q1 : VK) (E1 : XK), Same H H1 → (∀ H', Same H1 H' → Q1 dv H') → spShownV K [.str z, .str l, x] H1 Q1 E1) ∧ (∀ (H1 : Hp) (Q1 : VK) (E1 : XK), Same H H1 → Q1 dv H1 → spShowsV K t1 t2 t3 [.str z, .str l, x] H1 Q1 E1) := by
    rcases ht.isList (K := K) with ⟨a, xs, ds, rfl, rfl, ha, hall⟩ | hno
    · refine ⟨if papV z.cps.toList l.cps.toList 0 xs then .int xs.length else .non, ?_, fun H1 Q1 E1 s q1 => ⟨z, l, _, rfl, hz, hl, .inl ⟨a, xs, rfl, s _ _ ha, fun v hv => (hall.same s).el v hv, q1⟩⟩, fun H1 Q1 E1 s q1 => ⟨z, l, _, rfl, hz, hl, s _ _ h1, s _ _ h2, s _ _ h3, .inl ⟨a, xs, rfl, s _ _ ha, fun v hv => ?_, q1⟩⟩⟩
      · split
        · exact .inr ⟨_, rfl⟩
        · exact .inl rfl
      · rcases (hall.same s).el (K := K) v hv with h | h | h
        · exact .inl h
        · exact .inr (.inl h)
        · exact .inr (.inr (.inl h))
    · exact ⟨.non, .inl rfl, fun H1 Q1 E1 s q1 => ⟨z, l, _, rfl, hz, hl, .inr ⟨hno.same s, q1 _ (Same.refl _)⟩⟩, fun H1 Q1 E1 s q1 => ⟨z, l, _, rfl, hz, hl, s _ _ h1, s _ _ h2, s _ _ h3, .inr ⟨.inl (hno.same s), q1⟩⟩⟩
  obtain ⟨dv, hdv, due1, due2⟩ := due
  refine ⟨_, rfl, _, rfl, _, rfl, ?_⟩
  delta tNil
  dsimp only
  show spShownV K [.str z, .str l, x] H _ _
  refine due1 H _ _ (Same.refl _) fun H1 s1 => ?_
  refine ⟨_, rfl, n, p, x, d, rfl, ht.same s1, hsh, ?_⟩
  refine ⟨2, rfl, by decide, by decide, ?_⟩
  refine for_range (lo := 0) (n := 2) (fun i σ Hj => Same H Hj ∧ ∃ v5 v6 : Option V, σ = [some (.str z), some (.str l), some x, some dv, some (.str d.shown), v5, v6]) ?_ ?_ ?_
  · exact ⟨s1, _, _, rfl⟩
  · rintro i σ Hj hi ⟨sj, v5, v6, rfl⟩
    refine ⟨_, rfl, _, rfl, _, rfl, ?_⟩
    dsimp only
    show spShowsV K t1 t2 t3 [.str z, .str l, x] Hj _ _
    refine due2 Hj _ _ sj ?_
    refine ⟨_, rfl, n, p, x, d, rfl, ht.same sj, hsh, ?_⟩
    refine ⟨_, rfl, rfl, _, rfl, ?_⟩
    rw [decide_eq_true (show V.str d.shown = V.str d.shown from rfl)]
    refine iteF ?_
    refine ⟨_, rfl, rfl, _, rfl, rfl, ?_⟩
    refine ⟨rfl, _, rfl, ?_⟩
    rw [decide_eq_true (show V.bl (decide (dv = .non)) = V.bl (decide (dv = .non)) from rfl)]
    refine iteF ?_
    refine ⟨_, rfl, rfl, _, rfl, ?_⟩
    rcases hdv with rfl | ⟨k, rfl⟩
    · rw [decide_eq_true (show V.non = V.non from rfl)]
      refine iteF ?_
      refine iteF ?_
      exact ⟨sj, _, _, rfl⟩
    · rw [decide_eq_false (show ¬ V.int k = V.non from fun e => nomatch e)]
      refine iteT ?_
      refine ⟨_, rfl, _, rfl, true, rfl, ?_⟩
      refine iteF ?_
      refine ⟨_, rfl, _, rfl, _, _, .int _, .int _, rfl, rfl, _, rfl, ?_⟩
      rw [show (PyData.int k).eqv (PyData.int k) = true from by simp [PyData.eqv]]
      refine iteF ?_
      exact ⟨sj, _, _, rfl⟩
  · rintro σ Hj ⟨sj, v5, v6, rfl⟩
    exact q Hj sj
end
end Lv
set_option Elab.async false
set_option linter.all false
set_option maxRecDepth 100000
set_option maxHeartbeats 8000000
namespace Lv
open PySem L2
section
variable {P : Program} {w : World} {K : PySem.W.Frag} {mg : Str → Option Value} {base : Heap} {f : Addr} {fd : FuncData}
abbrev sLawOdd : Stmt := top 21
def nLawOdd : List Str := ["draws", "size", "some"]
theorem scLawOdd : FnScope nLawOdd ["draws", "size"] (defScope sLawOdd) := ⟨rfl, rfl, rfl, by decide +kernel, rfl, by decide +kernel, by decide +kernel⟩
theorem ok_odd (T : Glb mg) (c_law_take : Callee P w K mg base 1 "_law_take" ["draws", "many"] spTake) (F : Fun K "_law_odd" "_law_odd" sLawOdd f fd) : FnOk P w K mg base CX0 2 f fd ["draws", "size"] spOdd := by
  refine F.ok scLawOdd (fun vs H Q E h => ?_) (fun cdv A outer s H vs Q E hr h => ?_)
  · obtain ⟨p, n, rfl, _⟩ := h
    rfl
  obtain ⟨p, n, rfl, hD, n0, n1, q⟩ := h
  have hu := hu_of hr
  refine' ⟨_, ?TT, ?RR⟩
  case TT =>
    refine' pss_cons ?x209 ?x210
    case x209 =>
     show PS _ (.Assign [.Name _ _] (.List _ _) _) _
     refine' @ps_setL9 _ 2 _ _ _ _ _ _ ?a ?b ?c ?x211 ?e
     case a => exact scLawOdd.nd
     case b => rfl
     case c => exact Or.inl rfl
     case e => exact Or.inl rfl
     case x211 =>
      refine' pe_lst ?x212
      case x212 =>
       refine' pa_Const ?x213 ?x214
       case x213 =>
        exact pe_bl
       case x214 =>
        refine' pa_Const ?x215 ?x216
        case x215 =>
         exact pe_bl
        case x216 =>
         refine' pa_Const ?x217 ?x218
         case x217 =>
          exact pe_non
         case x218 =>
          refine' pa_Const ?x219 ?x220
          case x219 =>
           exact pe_str
          case x220 =>
           refine' pa_Const ?x221 ?x222
           case x221 =>
            exact pe_str
           case x222 =>
            refine' pa_List ?x223 ?x224
            case x223 =>
             refine' pe_lstN ?x225
             case x225 =>
              refine' pa_Const ?x226 ?x227
              case x226 =>
               exact pe_int
              case x227 =>
               exact pa_nil
            case x224 =>
             refine' pa_Tuple ?x228 ?x229
             case x228 =>
              refine' pe_tup ?x230
              case x230 =>
               refine' pa_Const ?x231 ?x232
               case x231 =>
                exact pe_int
               case x232 =>
                exact pa_nil
             case x229 =>
              refine' pa_Dict ?x233 ?x234
              case x233 =>
               exact pe_dnewK
              case x234 =>
               refine' pa_UnaryOp ?x235 ?x236
               case x235 =>
                refine' pe_un un_neg ?x237
                case x237 =>
                 exact pe_int
               case x236 =>
                refine' pa_Const ?x238 ?x239
                case x238 =>
                 exact pe_int
                case x239 =>
                 refine' pa_Name (pv 1) ?x240
                 case x240 =>
                  refine' pa_BinOp ?x241 ?x242
                  case x241 =>
                   refine' pe_op op_add (pv 1) ?x243
                   case x243 =>
                    exact pe_int
                  case x242 =>
                   refine' pa_BinOp ?x244 ?x245
                   case x244 =>
                    refine' pe_op op_pow ?x246 ?x247
                    case x246 =>
                     exact pe_int
                    case x247 =>
                     exact pe_int
                   case x245 =>
                    exact pa_nil
    case x210 =>
     refine' pss_one ?x248
     case x248 =>
      refine' ps_ret ?x249
      case x249 =>
       refine' pe_ix ix_list (pv 2) ?x250 (fun _ _ => rfl)
       case x250 =>
        refine' pe_callC c_law_take hr rfl ?x251
        case x251 =>
         refine' pa_Name (pv 0) ?x252
         case x252 =>
          refine' pa_Const ?x253 ?x254
          case x253 =>
           exact pe_int
          case x254 =>
           exact pa_nil
  case RR =>
  refine ⟨(by show 1 ≤ sizeLine; decide), fun l1 nl1 ml1 => ?_⟩
  generalize j1 : upd _ l1 _ = G1
  have g1 := upS j1 nl1; have e1 := upE j1
  refine ⟨(by show 1 ≤ sizeLine; decide), fun u1 nu1 => ?_⟩
  generalize j2 : upd _ u1 _ = G2
  have g2 := upS j2 nu1; have e2 := upE j2
  delta tCons tDNewK
  dsimp only
  intro d1 nd1
  generalize j3 : upd _ d1 _ = G3
  have g3 := upS j3 nd1; have e3 := upE j3
  refine ⟨1, rfl, _, rfl, _, rfl, _, _, rfl, rfl, 10, 60, rfl, rfl, ⟨by decide, by decide, by decide⟩, (by show 13 ≤ sizeLine; decide), fun S nS => ?_⟩
  generalize j4 : upd _ S _ = G4
  have g4 := upS j4 nS; have e4 := upE j4
  have s4 : Same H G4 := g1.trans (g2.trans (g3.trans g4))
  have hD4 := hD.same s4
  refine ⟨_, rfl, _, rfl, p, 13, rfl, hD4, by decide, fun v H5 v0 v1 hD5 k5 => ?_⟩
  have nS0 : H S = none := g1.free (g2.free (g3.free nS))
  have hS5 := k5 _ _ e4 (hD.ne nS0)
  have kk : Kp p H H5 := (s4.kp p).trans k5
  obtain ⟨i, rfl⟩ := Int.eq_ofNat_of_zero_le v0
  have i13 : i < 13 := by omega
  have nl : l1 ≠ p := hD.ne nl1
  have nu : u1 ≠ p := hD.ne (g1.free nu1)
  have nd : d1 ≠ p := hD.ne (g1.free (g2.free nd1))
  have h1 := k5 _ _ (g4 _ _ (g3 _ _ (g2 _ _ e1))) nl
  have h2 := k5 _ _ (g4 _ _ (g3 _ _ e2)) nu
  have h3 := k5 _ _ (g4 _ _ e3) nd
  refine ⟨S, _, (i : Int), _, rfl, rfl, SqL.of hS5, atI_nat (List.getElem?_eq_getElem (by show i < 13; exact i13)), ?_⟩
  refine q _ H5 hD5 kk ?_
  have hm : ∀ y ∈ ([.bl true, .bl false, .non, .str (Str.ofString "1"), .str (Str.ofString ""), .ref l1, .ref u1, .ref d1, .int (-1), .int 0, .int n, .int (n + 1), .int (10 ^ 60)] : List V), Od (10 ^ 60) p H5 y := by
    intro y hy
    simp only [List.mem_cons, List.not_mem_nil, or_false] at hy
    have big : (1000 : Nat) ≤ 10 ^ 60 := by decide
    rcases hy with rfl | rfl | rfl | rfl | rfl | rfl | rfl | rfl | rfl | rfl | rfl | rfl | rfl
    · exact .bl _
    · exact .bl _
    · exact .non
    · exact .str _ (.inl rfl)
    · exact .str _ (.inr rfl)
    · exact .lst h1 nl ml1
    · exact .tup h2 nu
    · exact .dct h3 nd
    · exact .int _ (by decide)
    · exact .int _ (by decide)
    · exact .int _ (by omega)
    · exact .int _ (by omega)
    · exact .int _ (by decide)
  exact hm _ (List.getElem_mem _)
end
end Lv
set_option Elab.async false
set_option linter.all false
set_option maxRecDepth 100000
set_option maxHeartbeats 8000000
namespace L2
open PySem
def T3 (t1 t2 t3 : Addr) (H : Hp) : Prop := H t1 = some (.ext (TabP t1)) ∧ H t2 = some (.ext (TabP t2)) ∧ H t3 = some (.ext (TabP t3))
theorem T3.of {t1 t2 t3 : Addr} {H : Hp} (h : Tabs [t1, t2, t3] H) : T3 t1 t2 t3 H := ⟨h _ List.mem_cons_self, h _ (List.mem_cons_of_mem _ List.mem_cons_self), h _ (List.mem_cons_of_mem _ (List.mem_cons_of_mem _ List.mem_cons_self))⟩
theorem T3.to {t1 t2 t3 : Addr} {H : Hp} (h : T3 t1 t2 t3 H) : Tabs [t1, t2, t3] H := fun P hP => by
  simp only [List.mem_cons, List.not_mem_nil, or_false] at hP
  rcases hP with rfl | rfl | rfl
  · exact h.1
  · exact h.2.1
  · exact h.2.2
theorem T3.same {t1 t2 t3 : Addr} {H H' : Hp} (h : T3 t1 t2 t3 H) (s : Same H H') : T3 t1 t2 t3 H' := ⟨s _ _ h.1, s _ _ h.2.1, s _ _ h.2.2⟩
theorem T3.kp {t1 t2 t3 p : Addr} {H H' : Hp} (h : T3 t1 t2 t3 H) (d : DrawsAt H p) (s : Kp p H H') : T3 t1 t2 t3 H' := ⟨s _ _ h.1 (d.neT h.1), s _ _ h.2.1 (d.neT h.2.1), s _ _ h.2.2 (d.neT h.2.2)⟩
/-- what stands in a list that is no paper -/
def De (p : Addr) (H : Hp) (v : V) : Prop := (∃ n, v = .int n) ∨ (∃ b ys, v = .ref b ∧ b ≠ p ∧ H b = some (.lst ys)) ∨ (∃ b, v = .ref b ∧ b ≠ p ∧ H b = some (.ext (ExcP "ValueError" b)))
theorem De.kp {p : Addr} {H H' : Hp} {v : V} (d : De p H v) (k : Kp p H H') : De p H' v := by
  rcases d with h | ⟨b, ys, e, n, h⟩ | ⟨b, e, n, h⟩
  · exact .inl h
  · exact .inr (.inl ⟨b, ys, e, n, k _ _ h n⟩)
  · exact .inr (.inr ⟨b, e, n, k _ _ h n⟩)
theorem De.el {K : PySem.W.Frag} {p : Addr} {H : Hp} {v : V} (d : De p H v) : ElV K H v := by
  rcases d with h | ⟨b, ys, rfl, n, h⟩ | ⟨b, rfl, n, h⟩
  · exact .inl h
  · exact .inr (.inr (.inl fun _ s => .lr_int _ _ (SqL.of (s _ _ h))))
  · exact .inr (.inr (.inr ⟨b, rfl, h⟩))
theorem papV_bad {row ls : List Nat} : ∀ (xs : List V) (s : Nat), (∃ v ∈ xs, ∀ n, v ≠ .int n) → papV row ls s xs = false
  | [], _, ⟨v, h, _⟩ => nomatch h
  | x :: xs, s, ⟨v, h, hv⟩ => by
    by_cases hx : ∃ n, x = .int n
    · obtain ⟨n, rfl⟩ := hx
      rcases List.mem_cons.mp h with rfl | h
      · exact absurd rfl (hv n)
      · rw [papV_int, papV_bad xs _ ⟨v, h, hv⟩, Bool.and_false, Bool.and_false]
    · exact papV_oth _ _ _ (fun n e => hx ⟨n, e⟩) _
def Nsh (p : Addr) (H : Hp) (x : V) : Prop := (∃ b xs, x = .ref b ∧ b ≠ p ∧ H b = some (.lst xs) ∧ (∀ v ∈ xs, De p H v) ∧ ∃ v ∈ xs, ∀ n, v ≠ .int n) ∨ (∃ b, x = .ref b ∧ b ≠ p ∧ H b = some (.ext (ExcP "ValueError" b)))
theorem Nsh.kp {p : Addr} {H H' : Hp} {v : V} (d : Nsh p H v) (k : Kp p H H') : Nsh p H' v := by
  rcases d with ⟨b, xs, e, n, h, hd, hv⟩ | ⟨b, e, n, h⟩
  · exact .inl ⟨b, xs, e, n, k _ _ h n, fun v hv => (hd v hv).kp k, hv⟩
  · exact .inr ⟨b, e, n, k _ _ h n⟩
theorem Nsh.none {K : PySem.W.Frag} {P1 P2 P3 p : Addr} {H : Hp} {z l : Str} {x : V} {Q : VK} {E : XK} (d : Nsh p H x) (hz : z.length ≤ 200) (hl : LetOk l) (h : T3 P1 P2 P3 H) (q : Q .non H) : spShowsV K P1 P2 P3 [.str z, .str l, x] H Q E := by
  rcases d with ⟨b, xs, rfl, n, e, hd, hv⟩ | ⟨b, rfl, n, e⟩
  · exact ⟨z, l, _, rfl, hz, hl, h.1, h.2.1, h.2.2, .inl ⟨b, xs, rfl, e, fun v hv => (hd v hv).el, by rw [papV_bad xs 0 hv]; exact q⟩⟩
  · exact ⟨z, l, _, rfl, hz, hl, h.1, h.2.1, h.2.2, .inr ⟨.inr ⟨b, rfl, e⟩, q⟩⟩
end L2
namespace Lv
open PySem L2
section
variable {P : Program} {w : World} {K : PySem.W.Frag} {mg : Str → Option Value} {base : Heap} {f : Addr} {fd : FuncData}
abbrev sLaw : Stmt := top 27
def nLaw : List Str := ["script", "draws", "many", "signs", "row", "letters", "thing", "least", "at", "some"]
theorem scLaw : FnScope nLaw ["script"] (defScope sLaw) := ⟨rfl, rfl, rfl, by decide +kernel, rfl, by decide +kernel, by decide +kernel⟩
theorem ok_law (T : Glb mg) {t1 t2 t3 : Addr} (m_ValueError : mg "ValueError" = none) (c_law_take : Callee P w K mg base 1 "_law_take" ["draws", "many"] spTake) (c_law_draws : Callee P w K mg base 1 "_law_draws" ["script"] (spDraws K)) (c_law_signs : Callee P w K mg base 2 "_law_signs" ["draws"] spSigns) (c_law_row : Callee P w K mg base 2 "_law_row" ["draws", "signs", "most"] spRowC) (c_law_some_letters : Callee P w K mg base 2 "_law_some_letters" ["draws", "signs"] spSomeL) (c_law_arches : Callee P w K mg base 1 "_law_arches" ["row", "letters"] spArchesL) (c_shows : Callee P w K mg base 3 "shows" ["row", "letters", "thing"] (spShowsV K t1 t2 t3)) (c_law_deep : Callee P w K mg base 1 "_law_deep" ["many"] spDeepL) (c_law_things : Callee P w K mg base 4 "_law_things" ["draws", "row", "letters"] spThings) (c_law_right : Callee P w K mg base 4 "_law_right" ["row", "letters", "thing"] (spRightT t1 t2 t3)) (F : Fun K "law" "law" sLaw f fd) : FnOk P w K mg base CX0 6 f fd ["script"] (spLawT K [t1, t2, t3]) := by
  refine F.ok scLaw (fun vs H Q E h => ?_) (fun cdv A outer s H vs Q E hr h => ?_)
  · obtain ⟨a, ns, rfl, _⟩ := h
    rfl
  obtain ⟨a, ns, rfl, hS, h63, hO, hT, q⟩ := h
  have hu := hu_of hr
  refine' ⟨_, ?TT, ?RR⟩
  case TT =>
    refine' pss_cons ?x1 ?x2
    case x1 =>
     refine' ps_set (i := 1) scLaw.nd rfl (Or.inl rfl) ?x3
     case x3 =>
      refine' pe_callC c_law_draws hr rfl ?x4
      case x4 =>
       refine' pa_Name (pv 0) ?x5
       case x5 =>
        exact pa_nil
    case x2 =>
     refine' pss_cons ?x6 ?x7
     case x6 =>
      refine' ps_set (i := 2) scLaw.nd rfl (Or.inl rfl) ?x8
      case x8 =>
       exact pe_int
     case x7 =>
      refine' pss_cons ?x9 ?x10
      case x9 =>
       refine' ps_while PassesOwn.never ?x11 ?x12
       case x11 =>
        refine' pt_cut ?x13
        case x13 =>
         refine' PW.pt ?x14
         case x14 =>
          refine' pw_or ?x15 ?x16
          case x15 =>
           refine' pt_cmpR op_lt (pv 2) ?x17 (nomark _)
           case x17 =>
            exact pe_int
          case x16 =>
           refine' pw_or1 ?x18
           case x18 =>
            refine' PW.pt ?x19
            case x19 =>
             refine' pw_and ?x20 ?x21
             case x20 =>
              refine' pt_cmpR (op_neD hr.units) (pv 1) ?x22 (nomark _)
              case x22 =>
               refine' pe_lst ?x23
               case x23 =>
                exact pa_nil
             case x21 =>
              refine' pw_and1 ?x24
              case x24 =>
               refine' pt_cmpR op_lt (pv 2) ?x25 (nomark _)
               case x25 =>
                exact pe_int
       case x12 =>
        refine' pss_cons ?x26 ?x27
        case x26 =>
         refine' ps_set (i := 3) scLaw.nd rfl (Or.inl rfl) ?x28
         case x28 =>
          refine' pe_callC c_law_signs hr rfl ?x29
          case x29 =>
           refine' pa_Name (pv 1) ?x30
           case x30 =>
            exact pa_nil
        case x27 =>
         refine' pss_cons ?x31 ?x32
         case x31 =>
          refine' ps_set (i := 4) scLaw.nd rfl (Or.inl rfl) ?x33
          case x33 =>
           refine' pe_callC c_law_row hr rfl ?x34
           case x34 =>
            refine' pa_Name (pv 1) ?x35
            case x35 =>
             refine' pa_Name (pv 3) ?x36
             case x36 =>
              refine' pa_Const ?x37 ?x38
              case x37 =>
               exact pe_int
              case x38 =>
               exact pa_nil
         case x32 =>
          refine' pss_cons ?x39 ?x40
          case x39 =>
           refine' ps_for PassesOwn.never rfl ?x41 (pg_name (i := 5) scLaw.nd rfl (Or.inl rfl)) ?x42
           case x41 =>
            refine' pi_tup ?x43
            case x43 =>
             refine' pe_tup ?x44
             case x44 =>
              refine' pa_Call ?x45 ?x46
              case x45 =>
               refine' pe_callC c_law_some_letters hr rfl ?x47
               case x47 =>
                refine' pa_Name (pv 1) ?x48
                case x48 =>
                 refine' pa_Name (pv 3) ?x49
                 case x49 =>
                  exact pa_nil
              case x46 =>
               refine' pa_Subscript ?x50 ?x51
               case x50 =>
                refine' pe_ix ix_list (pv 3) ?x52 (fun _ _ => rfl)
                case x52 =>
                 exact pe_int
               case x51 =>
                exact pa_nil
           case x42 =>
            refine' pss_cons ?x53 ?x54
            case x53 =>
             refine' ps_for PassesOwn.never rfl ?x55 (pg_name (i := 6) scLaw.nd rfl (Or.inl rfl)) ?x56
             case x55 =>
              refine' pi_list ?x57
              case x57 =>
               refine' pe_callC c_law_things hr rfl ?x58
               case x58 =>
                refine' pa_Name (pv 1) ?x59
                case x59 =>
                 refine' pa_Name (pv 4) ?x60
                 case x60 =>
                  refine' pa_Name (pv 5) ?x61
                  case x61 =>
                   exact pa_nil
             case x56 =>
              refine' pss_one ?x62
              case x62 =>
               refine' ps_if ?x63 ?x64 ?x65
               case x63 =>
                refine' pt_not ?x66
                case x66 =>
                 refine' pt_val ?x67
                 case x67 =>
                  refine' pe_callC c_law_right hr rfl ?x68
                  case x68 =>
                   refine' pa_Name (pv 4) ?x69
                   case x69 =>
                    refine' pa_Name (pv 5) ?x70
                    case x70 =>
                     refine' pa_Name (pv 6) ?x71
                     case x71 =>
                      exact pa_nil
               case x64 =>
                refine' pss_one ?x72
                case x72 =>
                 refine' ps_ret ?x73
                 case x73 =>
                  exact pe_bl
               case x65 =>
                exact pss_nil
            case x54 =>
             refine' pss_cons ?x74 ?x75
             case x74 =>
              refine' ps_set (i := 7) scLaw.nd rfl (Or.inl rfl) ?x76
              case x76 =>
               refine' pe_callC c_law_arches hr rfl ?x77
               case x77 =>
                refine' pa_Name (pv 4) ?x78
                case x78 =>
                 refine' pa_Name (pv 5) ?x79
                 case x79 =>
                  exact pa_nil
             case x75 =>
              refine' pss_cons ?x80 ?x81
              case x80 =>
               refine' ps_set (i := 8) scLaw.nd rfl (Or.inl rfl) ?x82
               case x82 =>
                refine' pe_callC c_law_take hr rfl ?x83
                case x83 =>
                 refine' pa_Name (pv 1) ?x84
                 case x84 =>
                  refine' pa_BinOp ?x85 ?x86
                  case x85 =>
                   refine' pe_op op_add ?x87 ?x88
                   case x87 =>
                    refine' pe_callB call_len_seq rfl T.m_len PySem.boot_len ?x89
                    case x89 =>
                     refine' pa_Name (pv 7) ?x90
                     case x90 =>
                      exact pa_nil
                   case x88 =>
                    exact pe_int
                  case x86 =>
                   exact pa_nil
              case x81 =>
               refine' pss_one ?x91
               case x91 =>
                refine' ps_set (i := 9) scLaw.nd rfl (Or.inl rfl) ?x92
                case x92 =>
                 refine' pe_lst ?x93
                 case x93 =>
                  refine' pa_Call ?x94 ?x95
                  case x94 =>
                   refine' pe_callC c_law_deep hr rfl ?x96
                   case x96 =>
                    refine' pa_Const ?x97 ?x98
                    case x97 =>
                     exact pe_int
                    case x98 =>
                     exact pa_nil
                  case x95 =>
                   refine' pa_List ?x99 ?x100
                   case x99 =>
                    refine' pe_lst ?x101
                    case x101 =>
                     refine' pa_Call ?x102 ?x103
                     case x102 =>
                      refine' pe_callC c_law_deep hr rfl ?x104
                      case x104 =>
                       refine' pa_Const ?x105 ?x106
                       case x105 =>
                        exact pe_int
                       case x106 =>
                        exact pa_nil
                     case x103 =>
                      exact pa_nil
                   case x100 =>
                    refine' pa_BinOp ?x107 ?x108
                    case x107 =>
                     refine' pe_op op_cat ?x109 ?x110
                     case x109 =>
                      refine' pe_op op_cat ?x111 ?x112
                      case x111 =>
                       exact (pe_slice sl_list (pv 7) po_none (po_some (pv 8)))
                      case x112 =>
                       refine' pe_lst ?x113
                       case x113 =>
                        refine' pa_Call ?x114 ?x115
                        case x114 =>
                         refine' pe_callC c_law_deep hr rfl ?x116
                         case x116 =>
                          refine' pa_Const ?x117 ?x118
                          case x117 =>
                           exact pe_int
                          case x118 =>
                           exact pa_nil
                        case x115 =>
                         exact pa_nil
                     case x110 =>
                      exact (pe_slice sl_list (pv 7) (po_some (pe_op op_add (pv 8) pe_int)) po_none)
                    case x108 =>
                     exact pa_nil
          case x40 =>
           refine' pss_cons ?x119 ?x120
           case x119 =>
            refine' ps_for PassesOwn.never rfl ?x121 (pg_name (i := 6) scLaw.nd rfl (Or.inl rfl)) ?x122
            case x121 =>
             refine' pi_list ?x123
             case x123 =>
              refine' pe_op op_cat (pv 9) ?x124
              case x124 =>
               refine' pe_lst ?x125
               case x125 =>
                refine' pa_Call ?x126 ?x127
                case x126 =>
                 refine' pe_callTy cr_valueError rfl m_ValueError (by decide +kernel) ?x128
                 case x128 =>
                  refine' pa_Const ?x129 ?x130
                  case x129 =>
                   exact pe_str
                  case x130 =>
                   exact pa_nil
                case x127 =>
                 refine' pa_BinOp ?x131 ?x132
                 case x131 =>
                  refine' pe_op op_cat ?x133 ?x134
                  case x133 =>
                   refine' pe_op op_cat ?x135 ?x136
                   case x135 =>
                    exact (pe_slice sl_list (pv 7) po_none (po_some (pv 8)))
                   case x136 =>
                    refine' pe_lst ?x137
                    case x137 =>
                     refine' pa_Call ?x138 ?x139
                     case x138 =>
                      refine' pe_callTy cr_valueError rfl m_ValueError (by decide +kernel) ?x140
                      case x140 =>
                       refine' pa_Const ?x141 ?x142
                       case x141 =>
                        exact pe_str
                       case x142 =>
                        exact pa_nil
                     case x139 =>
                      exact pa_nil
                  case x134 =>
                   exact (pe_slice sl_list (pv 7) (po_some (pe_op op_add (pv 8) pe_int)) po_none)
                 case x132 =>
                  exact pa_nil
            case x122 =>
             refine' pss_one ?x143
             case x143 =>
              refine' ps_if ?x144 ?x145 ?x146
              case x144 =>
               refine' pt_cmpR op_notN ?x147 ?x148 (nomark _)
               case x147 =>
                refine' pe_callC c_shows hr rfl ?x149
                case x149 =>
                 refine' pa_Name (pv 4) ?x150
                 case x150 =>
                  refine' pa_Name (pv 5) ?x151
                  case x151 =>
                   refine' pa_Name (pv 6) ?x152
                   case x152 =>
                    exact pa_nil
               case x148 =>
                exact pe_non
              case x145 =>
               refine' pss_one ?x153
               case x153 =>
                refine' ps_ret ?x154
                case x154 =>
                 exact pe_bl
              case x146 =>
               exact pss_nil
           case x120 =>
            refine' pss_one ?x155
            case x155 =>
             refine' ps_set (i := 2) scLaw.nd rfl (Or.inl rfl) ?x156
             case x156 =>
              refine' pe_op op_add (pv 2) ?x157
              case x157 =>
               exact pe_int
      case x10 =>
       refine' pss_one ?x158
       case x158 =>
        refine' ps_ret ?x159
        case x159 =>
         refine' pe_and ?x160 ?x161
         case x160 =>
          refine' pe_callC c_law_right hr rfl ?x162
          case x162 =>
           refine' pa_Const ?x163 ?x164
           case x163 =>
            exact pe_str
           case x164 =>
            refine' pa_Const ?x165 ?x166
            case x165 =>
             exact pe_str
            case x166 =>
             refine' pa_List ?x167 ?x168
             case x167 =>
              refine' pe_lst ?x169
              case x169 =>
               exact pa_nil
             case x168 =>
              exact pa_nil
         case x161 =>
          refine' pe_and ?x170 ?x171
          case x170 =>
           refine' pe_callC c_law_right hr rfl ?x172
           case x172 =>
            refine' pa_Const ?x173 ?x174
            case x173 =>
             exact pe_str
            case x174 =>
             refine' pa_Const ?x175 ?x176
             case x175 =>
              exact pe_str
             case x176 =>
              refine' pa_List ?x177 ?x178
              case x177 =>
               refine' pe_lst ?x179
               case x179 =>
                refine' pa_Const ?x180 ?x181
                case x180 =>
                 exact pe_int
                case x181 =>
                 exact pa_nil
              case x178 =>
               exact pa_nil
          case x171 =>
           refine' pe_one ?x182
           case x182 =>
            refine' pe_callC c_law_right hr rfl ?x183
            case x183 =>
             refine' pa_Const ?x184 ?x185
             case x184 =>
              exact pe_str
             case x185 =>
              refine' pa_Const ?x186 ?x187
              case x186 =>
               exact pe_str
              case x187 =>
               refine' pa_List ?x188 ?x189
               case x188 =>
                refine' pe_lst ?x190
                case x190 =>
                 refine' pa_Const ?x191 ?x192
                 case x191 =>
                  exact pe_int
                 case x192 =>
                  exact pa_nil
               case x189 =>
                exact pa_nil
  case RR =>
  have hScr := Scr.ofT hS hO
  refine ⟨_, rfl, a, ns, rfl, hS, hScr, h63, fun p H1 np hD1 s1 => ?_⟩
  have hT1 : T3 t1 t2 t3 H1 := T3.of (hT.same s1)
  refine ⟨fun k σ H' => ∃ (mm : Nat) (v3 v4 v5 v6 v7 v8 v9 : Option V), k = 3 - mm ∧ σ = [some (.ref a), some (.ref p), some (.int (mm : Nat)), v3, v4, v5, v6, v7, v8, v9] ∧ DrawsAt H' p ∧ T3 t1 t2 t3 H' ∧ mm ≤ 3, ⟨3, 0, _, _, _, _, _, _, _, rfl, rfl, hD1, hT1, by decide⟩, ?_⟩
  rintro k σ H7 ⟨mm, v3, v4, v5, v6, v7, v8, v9, hk, rfl, hD7, hT7, hmm⟩
  refine ⟨fun b H' => Same H7 H' ∧ (b = true → mm < 3), ?_, ?_⟩
  · refine ⟨_, rfl, _, _, rfl, rfl, _, rfl, ?_⟩
    refine ite2 (fun c => ?_) (fun c => ?_)
    · have c' : (mm : Int) < 1 := of_decide_eq_true c
      exact ⟨Same.refl _, fun _ => by omega⟩
    · obtain ⟨ds, hds, _⟩ := hD7.ex
      refine ⟨_, rfl, (by show 0 ≤ sizeLine; decide), fun l nl => ?_⟩
      have s5 := same_new nl (.lst [])
      refine ⟨_, _, Dp.ints (SqL.of (s5 _ _ hds)), Dp.ints (ns := []) (SqL.of upd_same), shaped_ints _, shaped_ints _, _, rfl, ?_⟩
      refine ite2 (fun _ => ?_) (fun _ => ?_)
      · refine ⟨_, rfl, _, _, rfl, rfl, _, rfl, s5, fun h => ?_⟩
        have h' : (mm : Int) < 3 := of_decide_eq_true h
        omega
      · exact ⟨s5, (fun h => nomatch h)⟩
  rintro b H8 ⟨s8, hb⟩
  have hD8 := hD7.same s8
  have hT8 := hT7.same s8
  have laE : LetOk (Str.ofString "a") := (let_iff _).mp (by decide +kernel)
  cases b with
  | false =>
    refine iteF ?_
    refine ⟨(by show 0 ≤ sizeLine; decide), fun e1 ne1 => ?_⟩
    generalize j1 : upd _ e1 _ = G1
    have g1 := upS j1 ne1; have f1 := upE j1
    have hTa := hT8.same g1
    refine ⟨Str.ofString "", Str.ofString "a", .ref e1, p, rfl, by decide +kernel, laE, thg_ints (ns := []) f1 (hD8.ne ne1) .none, hTa.1, hTa.2.1, hTa.2.2, fun G2 g2 => ?_⟩
    refine ⟨true, rfl, ?_⟩
    refine iteT ?_
    refine ⟨(by show 1 ≤ sizeLine; decide), fun e2 ne2 => ?_⟩
    generalize j2 : upd _ e2 _ = G3
    have g3 := upS j2 ne2; have f2 := upE j2
    have hTb := hTa.same (g2.trans g3)
    have hDb := hD8.same (g1.trans g2)
    refine ⟨Str.ofString "a", Str.ofString "a", .ref e2, p, rfl, by decide +kernel, laE, thg_ints (ns := [1]) f2 (hDb.ne ne2) (.one (by decide)), hTb.1, hTb.2.1, hTb.2.2, fun G4 g4 => ?_⟩
    refine ⟨true, rfl, ?_⟩
    refine iteT ?_
    refine ⟨(by show 1 ≤ sizeLine; decide), fun e3 ne3 => ?_⟩
    generalize j3 : upd _ e3 _ = G5
    have g5 := upS j3 ne3; have f3 := upE j3
    have hTc := hTb.same (g4.trans g5)
    have hDc := (hDb.same g3).same g4
    refine ⟨Str.ofString "aa", Str.ofString "a", .ref e3, p, rfl, by decide +kernel, laE, thg_ints (ns := [2]) f3 (hDc.ne ne3) (.one (by decide)), hTc.1, hTc.2.1, hTc.2.2, fun G6 g6 => ?_⟩
    exact q _ (hTc.same g6).to
  | true =>
    refine iteT ?_
    have hm5 := hb rfl
    refine ⟨_, fun σ' H' h => h, ?_⟩
    refine ⟨_, rfl, p, rfl, hD8, fun q0 cs H9 hS9 nqp nq hD9 k9 => ?_⟩
    have hT9 := hT8.kp hD8 k9
    refine ⟨_, rfl, _, rfl, p, q0, 80, cs, rfl, hD9, hS9, nqp, by decide, by decide, fun z H10 rz lz _ hD10 k10 => ?_⟩
    have hT10 := hT9.kp hD9 k10
    have hS10 := hS9.kp k10 nqp
    refine ⟨_, rfl, _, rfl, p, q0, cs, rfl, hD10, hS10, nqp, fun l0 H11 hL0 l26 hD11 k11 => ?_⟩
    have hT11 := hT10.kp hD10 k11
    have hS11 := hS10.kp k11 nqp
    obtain ⟨c0, crest, hc0⟩ := List.exists_cons_of_ne_nil hS11.ne
    have hat := hS11.at_
    have hc0' : ((cs.map sg).map V.str)[0]? = some (.str (sg c0)) := by rw [hc0]; rfl
    refine ⟨_, rfl, q0, _, 0, .str (sg c0), rfl, rfl, SqL.of hat, atI_nat (j := 0) hc0', ?_⟩
    refine ⟨(by show 2 ≤ sizeLine; decide), fun tt ntt => ?_⟩
    generalize jt : upd _ tt _ = H12
    have s12 := upS jt ntt; have et := upE jt
    have hD12 := hD11.same s12
    have hT12 := hT11.same s12
    have nttp : tt ≠ p := hD11.ne ntt
    have hLs : LetOk (sg c0) := ⟨fun c hc => by
      have e : c = c0 := List.mem_singleton.mp hc
      rw [e]
      exact hS11.ok c0 (by rw [hc0]; exact List.mem_cons_self), (by intro e; cases e), List.pairwise_singleton _ _⟩
    let St := fun (i : Nat) (σ : L2.St) (Hi : Hp) => DrawsAt Hi p ∧ Kp p H12 Hi ∧ ∃ (w5 w6 w7 w8 w9 : Option V), σ = [some (.ref a), some (.ref p), some (.int (mm : Nat)), some (.ref q0), some (.str z), w5, w6, w7, w8, w9] ∧
      (i = 0 ∨ ∃ (l : Str) (lm : Addr) (ks : List Int) (n : Nat) (S : Addr) (us : List V), w5 = some (.str l) ∧ LetOk l ∧ w7 = some (.ref lm) ∧ Hi lm = some (.lst (ks.map V.int)) ∧ lm ≠ p ∧ ks.length ≤ 80 ∧ w8 = some (.int (n : Nat)) ∧ n ≤ ks.length ∧ w9 = some (.ref S) ∧ Hi S = some (.lst us) ∧ S ≠ p ∧ us.length ≤ 10 ∧ ∀ u ∈ us, Nsh p Hi u)
    refine ⟨tt, rfl, ⟨_, SqT.of et⟩, for_tup (K := K) (a := tt) (xs := [.str l0, .str (sg c0)]) St ?_ ?_ ?_ ?_⟩
    · exact ⟨hD12, Kp.refl _ _, _, _, _, _, _, rfl, .inl rfl⟩
    · rintro i σ Hi hi ⟨_, ki, _⟩
      exact SqT.of (ki _ _ et nttp)
    · rintro i x σ Hi hx ⟨hDi, ki, w5, w6, w7, w8, w9, rfl, _⟩
      obtain ⟨l, rfl, hL⟩ : ∃ l, x = .str l ∧ LetOk l := by
        have := List.mem_of_getElem? hx
        simp only [List.mem_cons, List.not_mem_nil, or_false] at this
        rcases this with rfl | rfl
        · exact ⟨_, rfl, hL0⟩
        · exact ⟨_, rfl, hLs⟩
      have hTi := hT12.kp hD12 ki
      have l26' := hL.len
      refine ⟨_, rfl, _, rfl, _, rfl, p, z, l, rfl, hDi, lz, hL, fun T1 ts H13 hD13 k13 hT1' nT1 tl tb => ?_⟩
      have hT13 := hTi.kp hDi k13
      refine ⟨T1, rfl, ⟨_, SqL.of hT1'⟩, for_list (K := K) (a := T1) (xs := ts) (fun j σ Hj => Same H13 Hj ∧ ∃ (u6 : Option V), σ = [some (.ref a), some (.ref p), some (.int (mm : Nat)), some (.ref q0), some (.str z), some (.str l), u6, w7, w8, w9]) ?_ ?_ ?_ ?_⟩
      · exact ⟨Same.refl _, _, rfl⟩
      · rintro j σ Hj _ ⟨sj, _⟩
        exact SqL.of (sj _ _ hT1')
      · rintro j v σ Hj hv ⟨sj, u6, rfl⟩
        have hTj := hT13.same sj
        refine ⟨_, rfl, _, rfl, _, rfl, z, l, v, p, rfl, by omega, hL, (tb v (List.mem_of_getElem? hv)).kp (sj.kp p), hTj.1, hTj.2.1, hTj.2.2, fun Hk sk => ⟨true, rfl, ?_⟩⟩
        refine iteF ?_
        exact ⟨sj.trans sk, _, rfl⟩
      rintro σ H14 ⟨s14, u6, rfl⟩
      have hD14 := hD13.same s14
      have hT14 := hT13.same s14
      have k14 := (ki.trans k13).trans (s14.kp p)
      have lar := arE_len l.cps.toList z.cps.toList l.cps.toList 0
      have ez := len_cps z
      refine ⟨_, rfl, _, rfl, z, l, rfl, by omega, hL.1, l26', fun lm H15 s15 nlm hlm => ?_⟩
      rw [nInt_ints] at hlm
      have hks : ((arE l.cps.toList z.cps.toList l.cps.toList 0).map fun k : Nat => (k : Int)).length ≤ 80 := by rw [List.length_map]; omega
      generalize ((arE l.cps.toList z.cps.toList l.cps.toList 0).map fun k : Nat => (k : Int)) = ks at hlm hks
      have nlp : lm ≠ p := hD14.ne nlm
      have hD15 := hD14.same s15
      have hT15 := hT14.same s15
      have k15 := k14.trans (s15.kp p)
      refine ⟨_, rfl, _, rfl, lm, _, rfl, .inl (SqL.of hlm), _, _, rfl, rfl, p, _, rfl, hD15, by rw [List.length_map]; omega, fun nv H16 n0 n1 hD16 k16 => ?_⟩
      obtain ⟨n, rfl⟩ := Int.eq_ofNat_of_zero_le n0
      have hn : n ≤ ks.length := by rw [List.length_map] at n1; omega
      have hlm16 := k16 _ _ hlm nlp
      have small : ∀ k : Nat, k ≤ 4000 → k ≤ sizeLine := fun k hk => Nat.le_trans hk (by decide)
      have deI : ∀ (Hx : Hp) (lo hi : Option Int), ∀ v ∈ cutV (ks.map V.int) lo hi, De p Hx v := fun Hx lo hi v hv => by
        obtain ⟨m, _, rfl⟩ := List.mem_map.mp (List.mem_of_mem_drop (List.mem_of_mem_take hv))
        exact .inl ⟨m, rfl⟩
      have cl : ∀ lo hi : Option Int, (cutV (ks.map V.int) lo hi).length ≤ 80 := fun lo hi => by
        have := cutV_length (ks.map V.int) lo hi
        rw [List.length_map] at this
        omega
      refine ⟨3000, rfl, by decide, by decide, fun d1 b1 y1 G1 g1 nd1 nb1 e1 f1 => ?_⟩
      refine ⟨3000, rfl, by decide, by decide, fun d2 b2 y2 G2 g2 nd2 nb2 e2 f2 => ?_⟩
      refine ⟨(by show 1 ≤ sizeLine; decide), fun w1 nw1 => ?_⟩
      generalize j3 : upd _ w1 _ = G3
      have g3 := upS j3 nw1; have e3 := upE j3
      have h3 := g3 _ _ (g2 _ _ (g1 _ _ hlm16))
      refine ⟨_, rfl, _, rfl, _, rfl, lm, _, rfl, SqL.of h3, fun c1 nc1 => ?_⟩
      generalize j4 : upd _ c1 _ = G4
      have g4 := upS j4 nc1; have e4 := upE j4
      refine ⟨3000, rfl, by decide, by decide, fun d3 b3 y3 G5 g5 nd3 nb3 e5 f5 => ?_⟩
      refine ⟨(by show 1 ≤ sizeLine; decide), fun w2 nw2 => ?_⟩
      generalize j6 : upd _ w2 _ = G6
      have g6 := upS j6 nw2; have e6 := upE j6
      refine ⟨c1, w2, _, _, rfl, rfl, g6 _ _ (g5 _ _ e4), e6, small _ (by have := cl none (some (n : Int)); show _ + 1 ≤ 4000; omega), fun c2 nc2 => ?_⟩
      generalize j7 : upd _ c2 _ = G7
      have g7 := upS j7 nc2; have e7 := upE j7
      have h7 := g7 _ _ (g6 _ _ (g5 _ _ (g4 _ _ h3)))
      refine ⟨_, rfl, _, rfl, _, _, rfl, rfl, _, rfl, lm, _, rfl, SqL.of h7, fun c3 nc3 => ?_⟩
      generalize j8 : upd _ c3 _ = G8
      have g8 := upS j8 nc3; have e8 := upE j8
      have b1' := cl none (some (n : Int))
      have b2' := cl (some ((n : Int) + 1)) none
      refine ⟨c2, c3, _, _, rfl, rfl, g8 _ _ e7, e8, small _ (by rw [List.length_append]; show _ + 1 + _ ≤ 4000; omega), fun c4 nc4 => ?_⟩
      generalize j9 : upd _ c4 _ = G9
      have g9 := upS j9 nc4; have e9 := upE j9
      refine ⟨(by show 3 ≤ sizeLine; decide), fun S nS => ?_⟩
      generalize j10 : upd _ S _ = G10
      have g10 := upS j10 nS; have e10 := upE j10
      have q5 := g6.trans (g7.trans (g8.trans (g9.trans g10)))
      have q3 := g4.trans (g5.trans q5)
      have q1 := g2.trans (g3.trans q3)
      have qA := g1.trans q1
      have hD1' := hD16.same g1
      have hD3' := (hD1'.same g2).same g3
      have hD4' := hD3'.same g4
      have hD10 := hD16.same qA
      have z10 := k15.trans (k16.trans (qA.kp p))
      refine ⟨hD10, z10, _, _, _, _, _, rfl, .inr ⟨l, lm, ks, n, S, _, rfl, hL, rfl, qA _ _ hlm16, nlp, hks, rfl, hn, rfl, e10, (((((hD4'.same g5).same g6).same g7).same g8).same g9).ne nS, by show 3 ≤ 10; decide, fun u hu => ?_⟩⟩
      simp only [List.mem_cons, List.not_mem_nil, or_false] at hu
      rcases hu with rfl | rfl | rfl
      · exact .inl ⟨d1, _, rfl, hD16.ne nd1, q1 _ _ e1, fun v hv => by rw [List.mem_singleton.mp hv]; exact .inr (.inl ⟨b1, y1, rfl, hD16.ne nb1, q1 _ _ f1⟩), .ref b1, List.mem_singleton.mpr rfl, fun n e => nomatch e⟩
      · exact .inl ⟨w1, _, rfl, (hD1'.same g2).ne nw1, q3 _ _ e3, fun v hv => by rw [List.mem_singleton.mp hv]; exact .inr (.inl ⟨d2, _, rfl, hD1'.ne nd2, q3 _ _ (g3 _ _ e2)⟩), .ref d2, List.mem_singleton.mpr rfl, fun n e => nomatch e⟩
      · refine .inl ⟨c4, _, rfl, ((((hD4'.same g5).same g6).same g7).same g8).ne nc4, g10 _ _ e9, fun v hv => ?_, .ref d3, List.mem_append.mpr (.inl (List.mem_append.mpr (.inr (List.mem_singleton.mpr rfl)))), fun n e => nomatch e⟩
        rcases List.mem_append.mp hv with hv | hv
        · rcases List.mem_append.mp hv with hv | hv
          · exact deI _ _ _ v hv
          · rw [List.mem_singleton.mp hv]
            exact .inr (.inl ⟨d3, _, rfl, hD4'.ne nd3, q5 _ _ e5⟩)
        · exact deI _ _ _ v hv
    rintro σ H17 ⟨hD17, k17, w5, w6, w7, w8, w9, rfl, hcase⟩
    rcases hcase with h | ⟨l, lm, ks, n, S, us, rfl, hL, rfl, hlm, nlp, hks, rfl, hn, rfl, hSS, nSp, husl, hus⟩
    · cases h
    have hT17 := hT12.kp hD12 k17
    have small : ∀ k : Nat, k ≤ 4000 → k ≤ sizeLine := fun k hk => Nat.le_trans hk (by decide)
    have deI : ∀ (Hx : Hp) (lo hi : Option Int), ∀ v ∈ cutV (ks.map V.int) lo hi, De p Hx v := fun Hx lo hi v hv => by
      obtain ⟨m, _, rfl⟩ := List.mem_map.mp (List.mem_of_mem_drop (List.mem_of_mem_take hv))
      exact .inl ⟨m, rfl⟩
    have b1' : (cutV (ks.map V.int) none (some (n : Int))).length ≤ 80 := by
      have := cutV_length (ks.map V.int) none (some (n : Int))
      rw [List.length_map] at this
      omega
    have b2' : (cutV (ks.map V.int) (some ((n : Int) + 1)) none).length ≤ 80 := by
      have := cutV_length (ks.map V.int) (some ((n : Int) + 1)) none
      rw [List.length_map] at this
      omega
    refine ⟨_, rfl, _, rfl, fun r1 nr1 => ?_⟩
    generalize j1 : upd _ r1 _ = G1
    have g1 := upS j1 nr1; have e1 := upE j1
    refine ⟨_, rfl, _, rfl, _, rfl, lm, _, rfl, SqL.of (g1 _ _ hlm), fun c1 nc1 => ?_⟩
    generalize j2 : upd _ c1 _ = G2
    have g2 := upS j2 nc1; have e2 := upE j2
    refine ⟨_, rfl, fun r2 nr2 => ?_⟩
    generalize j3 : upd _ r2 _ = G3
    have g3 := upS j3 nr2; have e3 := upE j3
    refine ⟨(by show 1 ≤ sizeLine; decide), fun w1 nw1 => ?_⟩
    generalize j4 : upd _ w1 _ = G4
    have g4 := upS j4 nw1; have e4 := upE j4
    refine ⟨c1, w1, _, _, rfl, rfl, g4 _ _ (g3 _ _ e2), e4, small _ (by show _ + 1 ≤ 4000; omega), fun c2 nc2 => ?_⟩
    generalize j5 : upd _ c2 _ = G5
    have g5 := upS j5 nc2; have e5 := upE j5
    refine ⟨_, rfl, _, rfl, _, _, rfl, rfl, _, rfl, lm, _, rfl, SqL.of (g5 _ _ (g4 _ _ (g3 _ _ (g2 _ _ (g1 _ _ hlm))))), fun c3 nc3 => ?_⟩
    generalize j6 : upd _ c3 _ = G6
    have g6 := upS j6 nc3; have e6 := upE j6
    refine ⟨c2, c3, _, _, rfl, rfl, g6 _ _ e5, e6, small _ (by rw [List.length_append]; show _ + 1 + _ ≤ 4000; omega), fun c4 nc4 => ?_⟩
    generalize j7 : upd _ c4 _ = G7
    have g7 := upS j7 nc4; have e7 := upE j7
    refine ⟨(by show 2 ≤ sizeLine; decide), fun L2 nL => ?_⟩
    generalize j8 : upd _ L2 _ = G8
    have g8 := upS j8 nL; have e8 := upE j8
    have q2 := g2.trans (g3.trans (g4.trans (g5.trans (g6.trans (g7.trans g8)))))
    have q0' := g1.trans q2
    refine ⟨S, L2, us, _, rfl, rfl, q0' _ _ hSS, e8, small _ (by show _ + 2 ≤ 4000; omega), fun t nt => ?_⟩
    generalize j9 : upd _ t _ = G9
    have g9 := upS j9 nt; have e9 := upE j9
    have qA := q0'.trans g9
    have q4 : Same G3 G9 := g4.trans (g5.trans (g6.trans (g7.trans (g8.trans g9))))
    have dA := hD17.same g1
    have dB := (dA.same g2)
    have dC := ((((dB.same g3).same g4).same g5).same g6)
    have hT9 := hT17.same qA
    have bad : ∀ x ∈ us ++ [.ref r1, .ref c4], Nsh p G9 x := fun x hx => by
      rcases List.mem_append.mp hx with hx | hx
      · exact (hus x hx).kp (qA.kp p)
      simp only [List.mem_cons, List.not_mem_nil, or_false] at hx
      rcases hx with rfl | rfl
      · exact .inr ⟨r1, rfl, hD17.ne nr1, g9 _ _ (q2 _ _ e1)⟩
      · refine .inl ⟨c4, _, rfl, dC.ne nc4, g9 _ _ (g8 _ _ e7), fun v hv => ?_, .ref r2, List.mem_append.mpr (.inl (List.mem_append.mpr (.inr (List.mem_singleton.mpr rfl)))), fun n e => nomatch e⟩
        rcases List.mem_append.mp hv with hv | hv
        · rcases List.mem_append.mp hv with hv | hv
          · exact deI _ _ _ v hv
          · rw [List.mem_singleton.mp hv]
            exact .inr (.inr ⟨r2, rfl, dB.ne nr2, q4 _ _ e3⟩)
        · exact deI _ _ _ v hv
    refine ⟨t, rfl, ⟨_, SqL.of e9⟩, for_list (K := K) (a := t) (xs := us ++ [.ref r1, .ref c4]) (fun j σ Hj => Hj = G9 ∧ ∃ (u6 : Option V), σ = [some (.ref a), some (.ref p), some (.int (mm : Nat)), some (.ref q0), some (.str z), some (.str l), u6, some (.ref lm), some (.int (n : Nat)), some (.ref S)]) ?_ ?_ ?_ ?_⟩
    · exact ⟨rfl, _, rfl⟩
    · rintro j σ Hj _ ⟨rfl, _⟩
      exact SqL.of e9
    · rintro j v σ Hj hv ⟨rfl, u6, rfl⟩
      refine ⟨_, rfl, _, rfl, _, rfl, ?_⟩
      delta tNil
      dsimp only
      show spShowsV K t1 t2 t3 [.str z, .str l, v] Hj _ _
      refine (bad v (List.mem_of_getElem? hv)).none (by omega) hL hT9 ?_
      refine ⟨rfl, _, rfl, ?_⟩
      rw [decide_eq_true (show V.non = V.non from rfl)]
      refine iteF ?_
      exact ⟨rfl, _, rfl⟩
    rintro σ Hj ⟨rfl, u6, rfl⟩
    refine ⟨_, rfl, _, _, rfl, rfl, ?_⟩
    exact ⟨3 - (mm + 1), by omega, mm + 1, _, _, _, _, _, _, _, rfl, rfl, hD17.same qA, hT9, by omega⟩
end
end Lv
set_option Elab.async false
set_option linter.all false
set_option maxRecDepth 100000
set_option maxHeartbeats 8000000
namespace Lv
open PySem L2
section
variable {P : Program} {w : World} {K : PySem.W.Frag} {mg : Str → Option Value} {base : Heap} {f : Addr} {fd : FuncData}
abbrev sLawWhole : Stmt := top 20
def nLawWhole : List Str := ["thing"]
theorem scLawWhole : FnScope nLawWhole ["thing"] (defScope sLawWhole) := ⟨rfl, rfl, rfl, by decide +kernel, rfl, by decide +kernel, by decide +kernel⟩
theorem ok_whole1 (T : Glb mg)  (F : Fun K "_law_whole" "_law_whole" sLawWhole f fd) : FnOk P w K mg base CX0 1 f fd ["thing"] spWhole1 := by
  refine F.ok scLawWhole (fun vs H Q E h => ?_) (fun cdv A outer s H vs Q E hr h => ?_)
  · obtain ⟨n, rfl, _⟩ := h
    rfl
  obtain ⟨n, rfl, q⟩ := h
  have hu := hu_of hr
  refine' ⟨_, ?TT, ?RR⟩
  case TT =>
    refine' pss_one ?x1
    case x1 =>
     refine' ps_ret ?x2
     case x2 =>
      refine' pe_and ?x3 ?x4
      case x3 =>
       refine' pe_callB cr_isi rfl T.m_isinstance (by decide +kernel) ?x5
       case x5 =>
        refine' pa_Name (pv 0) ?x6
        case x6 =>
         refine' pa_Name ?x7 ?x8
         case x7 =>
          exact (pe_bltn (v := .ty "int") rfl T.m_int (by decide +kernel) rfl)
         case x8 =>
          exact pa_nil
      case x4 =>
       refine' pe_one ?x9
       case x9 =>
        refine' pe_not ?x10
        case x10 =>
         refine' pe_callB cr_isi rfl T.m_isinstance (by decide +kernel) ?x11
         case x11 =>
          refine' pa_Name (pv 0) ?x12
          case x12 =>
           refine' pa_Name ?x13 ?x14
           case x13 =>
            exact (pe_bltn (v := .ty "bool") rfl T.m_bool (by decide +kernel) rfl)
           case x14 =>
            exact pa_nil
  case RR =>
    refine ⟨_, rfl, _, _, _, rfl, .i_int _, true, rfl, ?_⟩
    refine iteT ?_
    refine ⟨_, rfl, _, _, _, rfl, .i_bool _, false, rfl, ?_⟩
    exact q
end
end Lv
set_option Elab.async false
set_option linter.all false
set_option maxRecDepth 100000
set_option maxHeartbeats 8000000
namespace Lv
open PySem L2
theorem all_mk {l : PySem.W.OpenLaw} {w : World} {K : PySem.W.Frag} {h : Heap} {mg : Str → Option Value} {fa : Addr} {f1 f2 f3 f4 f5 f6 f7 f8 f9 f10 f11 f12 f13 f14 f15 f16 f17 f18 f19 f20 f21  : Addr} {od1 an1 od2 an2 od3 an3 od4 an4 od5 an5 od6 an6 od7 an7 od8 an8 od9 an9 od10 an10 od11 an11 od12 an12 od13 an13 od14 an14 od15 an15 od16 an16 od17 an17 od18 an18 od19 an19 od20 an20 od21 an21 : Option Addr} {sl1 sl2 sl3 sl4 sl5 sl6 sl7 sl8 sl9 sl10 sl11 sl12 sl13 sl14 sl15 sl16 sl17 sl18 sl19 sl20 sl21 : Array (Option Value)} {oc1 kV1 dc1 pm1 cd1 ct1 oc2 kV2 dc2 pm2 cd2 ct2 oc3 kV3 dc3 pm3 cd3 ct3 oc4 kV4 dc4 pm4 cd4 ct4 oc5 kV5 dc5 pm5 cd5 ct5 oc6 kV6 dc6 pm6 cd6 ct6 oc7 kV7 dc7 pm7 cd7 ct7 oc8 kV8 dc8 pm8 cd8 ct8 oc9 kV9 dc9 pm9 cd9 ct9 oc10 kV10 dc10 pm10 cd10 ct10 oc11 kV11 dc11 pm11 cd11 ct11 oc12 kV12 dc12 pm12 cd12 ct12 oc13 kV13 dc13 pm13 cd13 ct13 oc14 kV14 dc14 pm14 cd14 ct14 oc15 kV15 dc15 pm15 cd15 ct15 oc16 kV16 dc16 pm16 cd16 ct16 oc17 kV17 dc17 pm17 cd17 ct17 oc18 kV18 dc18 pm18 cd18 ct18 oc19 kV19 dc19 pm19 cd19 ct19 oc20 kV20 dc20 pm20 cd20 ct20 oc21 kV21 dc21 pm21 cd21 ct21 : Value} {cc1 : Addr} {cc2 : Addr} {cc3 : Addr}
    (X : K.In h) (G : h.Ns mainGlobals mg) (hfa : mg "law" = some (.ref fa))
    (a1 : PySem.W.nsIn K mainGlobals "is_row" = some (some (.ref f1)))
    (l1 : K.lookup f1 = some ⟨oc1, od1, .func (PySem.W.fnOf "is_row" "is_row" (defArgs sIsRow) (defBody sIsRow) (defScope sIsRow) .none kV1 dc1 pm1 an1 cd1 ct1), sl1⟩)
    (c1 : PySem.W.codeIn K cd1 "is_row" = true)
    (k1 : PySem.W.keepIn K (.ref f1) = true)
    (ce1 : cd1 = .ref cc1)
    (ck1 : CodeK K cc1 41)
    (a2 : PySem.W.nsIn K mainGlobals "is_letters" = some (some (.ref f2)))
    (l2 : K.lookup f2 = some ⟨oc2, od2, .func (PySem.W.fnOf "is_letters" "is_letters" (defArgs sIsLetters) (defBody sIsLetters) (defScope sIsLetters) .none kV2 dc2 pm2 an2 cd2 ct2), sl2⟩)
    (c2 : PySem.W.codeIn K cd2 "is_letters" = true)
    (k2 : PySem.W.keepIn K (.ref f2) = true)
    (ce2 : cd2 = .ref cc2)
    (ck2 : CodeK K cc2 48)
    (a3 : PySem.W.nsIn K mainGlobals "has_all" = some (some (.ref f3)))
    (l3 : K.lookup f3 = some ⟨oc3, od3, .func (PySem.W.fnOf "has_all" "has_all" (defArgs sHasAll) (defBody sHasAll) (defScope sHasAll) .none kV3 dc3 pm3 an3 cd3 ct3), sl3⟩)
    (c3 : PySem.W.codeIn K cd3 "has_all" = true)
    (k3 : PySem.W.keepIn K (.ref f3) = true)
    (ce3 : cd3 = .ref cc3)
    (ck3 : CodeK K cc3 69)
    (a4 : PySem.W.nsIn K mainGlobals "is_place" = some (some (.ref f4)))
    (l4 : K.lookup f4 = some ⟨oc4, od4, .func (PySem.W.fnOf "is_place" "is_place" (defArgs sIsPlace) (defBody sIsPlace) (defScope sIsPlace) .none kV4 dc4 pm4 an4 cd4 ct4), sl4⟩)
    (c4 : PySem.W.codeIn K cd4 "is_place" = true)
    (k4 : PySem.W.keepIn K (.ref f4) = true)
    (a5 : PySem.W.nsIn K mainGlobals "shows" = some (some (.ref f5)))
    (l5 : K.lookup f5 = some ⟨oc5, od5, .func (PySem.W.fnOf "shows" "shows" (defArgs sShows) (defBody sShows) (defScope sShows) .none kV5 dc5 pm5 an5 cd5 ct5), sl5⟩)
    (c5 : PySem.W.codeIn K cd5 "shows" = true)
    (k5 : PySem.W.keepIn K (.ref f5) = true)
    (a6 : PySem.W.nsIn K mainGlobals "_law_draws" = some (some (.ref f6)))
    (l6 : K.lookup f6 = some ⟨oc6, od6, .func (PySem.W.fnOf "_law_draws" "_law_draws" (defArgs sLawDraws) (defBody sLawDraws) (defScope sLawDraws) .none kV6 dc6 pm6 an6 cd6 ct6), sl6⟩)
    (c6 : PySem.W.codeIn K cd6 "_law_draws" = true)
    (k6 : PySem.W.keepIn K (.ref f6) = true)
    (a7 : PySem.W.nsIn K mainGlobals "_law_take" = some (some (.ref f7)))
    (l7 : K.lookup f7 = some ⟨oc7, od7, .func (PySem.W.fnOf "_law_take" "_law_take" (defArgs sLawTake) (defBody sLawTake) (defScope sLawTake) .none kV7 dc7 pm7 an7 cd7 ct7), sl7⟩)
    (c7 : PySem.W.codeIn K cd7 "_law_take" = true)
    (k7 : PySem.W.keepIn K (.ref f7) = true)
    (a8 : PySem.W.nsIn K mainGlobals "_law_abc" = some (some (.ref f8)))
    (l8 : K.lookup f8 = some ⟨oc8, od8, .func (PySem.W.fnOf "_law_abc" "_law_abc" (defArgs sLawAbc) (defBody sLawAbc) (defScope sLawAbc) .none kV8 dc8 pm8 an8 cd8 ct8), sl8⟩)
    (c8 : PySem.W.codeIn K cd8 "_law_abc" = true)
    (k8 : PySem.W.keepIn K (.ref f8) = true)
    (a9 : PySem.W.nsIn K mainGlobals "_law_signs" = some (some (.ref f9)))
    (l9 : K.lookup f9 = some ⟨oc9, od9, .func (PySem.W.fnOf "_law_signs" "_law_signs" (defArgs sLawSigns) (defBody sLawSigns) (defScope sLawSigns) .none kV9 dc9 pm9 an9 cd9 ct9), sl9⟩)
    (c9 : PySem.W.codeIn K cd9 "_law_signs" = true)
    (k9 : PySem.W.keepIn K (.ref f9) = true)
    (a10 : PySem.W.nsIn K mainGlobals "_law_row" = some (some (.ref f10)))
    (l10 : K.lookup f10 = some ⟨oc10, od10, .func (PySem.W.fnOf "_law_row" "_law_row" (defArgs sLawRow) (defBody sLawRow) (defScope sLawRow) .none kV10 dc10 pm10 an10 cd10 ct10), sl10⟩)
    (c10 : PySem.W.codeIn K cd10 "_law_row" = true)
    (k10 : PySem.W.keepIn K (.ref f10) = true)
    (a11 : PySem.W.nsIn K mainGlobals "_law_some_letters" = some (some (.ref f11)))
    (l11 : K.lookup f11 = some ⟨oc11, od11, .func (PySem.W.fnOf "_law_some_letters" "_law_some_letters" (defArgs sLawSomeLetters) (defBody sLawSomeLetters) (defScope sLawSomeLetters) .none kV11 dc11 pm11 an11 cd11 ct11), sl11⟩)
    (c11 : PySem.W.codeIn K cd11 "_law_some_letters" = true)
    (k11 : PySem.W.keepIn K (.ref f11) = true)
    (a12 : PySem.W.nsIn K mainGlobals "_law_arches" = some (some (.ref f12)))
    (l12 : K.lookup f12 = some ⟨oc12, od12, .func (PySem.W.fnOf "_law_arches" "_law_arches" (defArgs sLawArches) (defBody sLawArches) (defScope sLawArches) .none kV12 dc12 pm12 an12 cd12 ct12), sl12⟩)
    (c12 : PySem.W.codeIn K cd12 "_law_arches" = true)
    (k12 : PySem.W.keepIn K (.ref f12) = true)
    (a13 : PySem.W.nsIn K mainGlobals "_law_shown" = some (some (.ref f13)))
    (l13 : K.lookup f13 = some ⟨oc13, od13, .func (PySem.W.fnOf "_law_shown" "_law_shown" (defArgs sLawShown) (defBody sLawShown) (defScope sLawShown) .none kV13 dc13 pm13 an13 cd13 ct13), sl13⟩)
    (c13 : PySem.W.codeIn K cd13 "_law_shown" = true)
    (k13 : PySem.W.keepIn K (.ref f13) = true)
    (a14 : PySem.W.nsIn K mainGlobals "_law_whole" = some (some (.ref f14)))
    (l14 : K.lookup f14 = some ⟨oc14, od14, .func (PySem.W.fnOf "_law_whole" "_law_whole" (defArgs sLawWhole) (defBody sLawWhole) (defScope sLawWhole) .none kV14 dc14 pm14 an14 cd14 ct14), sl14⟩)
    (c14 : PySem.W.codeIn K cd14 "_law_whole" = true)
    (k14 : PySem.W.keepIn K (.ref f14) = true)
    (a15 : PySem.W.nsIn K mainGlobals "_law_odd" = some (some (.ref f15)))
    (l15 : K.lookup f15 = some ⟨oc15, od15, .func (PySem.W.fnOf "_law_odd" "_law_odd" (defArgs sLawOdd) (defBody sLawOdd) (defScope sLawOdd) .none kV15 dc15 pm15 an15 cd15 ct15), sl15⟩)
    (c15 : PySem.W.codeIn K cd15 "_law_odd" = true)
    (k15 : PySem.W.keepIn K (.ref f15) = true)
    (a16 : PySem.W.nsIn K mainGlobals "_law_spoilt" = some (some (.ref f16)))
    (l16 : K.lookup f16 = some ⟨oc16, od16, .func (PySem.W.fnOf "_law_spoilt" "_law_spoilt" (defArgs sLawSpoilt) (defBody sLawSpoilt) (defScope sLawSpoilt) .none kV16 dc16 pm16 an16 cd16 ct16), sl16⟩)
    (c16 : PySem.W.codeIn K cd16 "_law_spoilt" = true)
    (k16 : PySem.W.keepIn K (.ref f16) = true)
    (a17 : PySem.W.nsIn K mainGlobals "_law_loose" = some (some (.ref f17)))
    (l17 : K.lookup f17 = some ⟨oc17, od17, .func (PySem.W.fnOf "_law_loose" "_law_loose" (defArgs sLawLoose) (defBody sLawLoose) (defScope sLawLoose) .none kV17 dc17 pm17 an17 cd17 ct17), sl17⟩)
    (c17 : PySem.W.codeIn K cd17 "_law_loose" = true)
    (k17 : PySem.W.keepIn K (.ref f17) = true)
    (a18 : PySem.W.nsIn K mainGlobals "_law_deep" = some (some (.ref f18)))
    (l18 : K.lookup f18 = some ⟨oc18, od18, .func (PySem.W.fnOf "_law_deep" "_law_deep" (defArgs sLawDeep) (defBody sLawDeep) (defScope sLawDeep) .none kV18 dc18 pm18 an18 cd18 ct18), sl18⟩)
    (c18 : PySem.W.codeIn K cd18 "_law_deep" = true)
    (k18 : PySem.W.keepIn K (.ref f18) = true)
    (a19 : PySem.W.nsIn K mainGlobals "_law_right" = some (some (.ref f19)))
    (l19 : K.lookup f19 = some ⟨oc19, od19, .func (PySem.W.fnOf "_law_right" "_law_right" (defArgs sLawRight) (defBody sLawRight) (defScope sLawRight) .none kV19 dc19 pm19 an19 cd19 ct19), sl19⟩)
    (c19 : PySem.W.codeIn K cd19 "_law_right" = true)
    (k19 : PySem.W.keepIn K (.ref f19) = true)
    (a20 : PySem.W.nsIn K mainGlobals "_law_things" = some (some (.ref f20)))
    (l20 : K.lookup f20 = some ⟨oc20, od20, .func (PySem.W.fnOf "_law_things" "_law_things" (defArgs sLawThings) (defBody sLawThings) (defScope sLawThings) .none kV20 dc20 pm20 an20 cd20 ct20), sl20⟩)
    (c20 : PySem.W.codeIn K cd20 "_law_things" = true)
    (k20 : PySem.W.keepIn K (.ref f20) = true)
    (a21 : PySem.W.nsIn K mainGlobals "law" = some (some (.ref f21)))
    (l21 : K.lookup f21 = some ⟨oc21, od21, .func (PySem.W.fnOf "law" "law" (defArgs sLaw) (defBody sLaw) (defScope sLaw) .none kV21 dc21 pm21 an21 cd21 ct21), sl21⟩)
    (c21 : PySem.W.codeIn K cd21 "law" = true)
    (k21 : PySem.W.keepIn K (.ref f21) = true)
    (z_range : PySem.W.nsIn K mainGlobals "range" = some none)
    (z_len : PySem.W.nsIn K mainGlobals "len" = some none)
    (z_max : PySem.W.nsIn K mainGlobals "max" = some none)
    (z_min : PySem.W.nsIn K mainGlobals "min" = some none)
    (z_int : PySem.W.nsIn K mainGlobals "int" = some none)
    (z_bool : PySem.W.nsIn K mainGlobals "bool" = some none)
    (z_str : PySem.W.nsIn K mainGlobals "str" = some none)
    (z_list : PySem.W.nsIn K mainGlobals "list" = some none)
    (z_tuple : PySem.W.nsIn K mainGlobals "tuple" = some none)
    (z_dict : PySem.W.nsIn K mainGlobals "dict" = some none)
    (z_set : PySem.W.nsIn K mainGlobals "set" = some none)
    (z_sum : PySem.W.nsIn K mainGlobals "sum" = some none)
    (z_sorted : PySem.W.nsIn K mainGlobals "sorted" = some none)
    (z_enumerate : PySem.W.nsIn K mainGlobals "enumerate" = some none)
    (z_isinstance : PySem.W.nsIn K mainGlobals "isinstance" = some none)
    (z_reversed : PySem.W.nsIn K mainGlobals "reversed" = some none)
    (z_repr : PySem.W.nsIn K mainGlobals "repr" = some none)
    (z_all : PySem.W.nsIn K mainGlobals "all" = some none)
    (z_zip : PySem.W.nsIn K mainGlobals "zip" = some none)
    (z_abs : PySem.W.nsIn K mainGlobals "abs" = some none)
    (z_ValueError : PySem.W.nsIn K mainGlobals "ValueError" = some none) :
    ∃ fd : FuncData, (∀ (s : Shared) (v : Value), BindsTo s fd ⟨[v], []⟩ [("script", v)]) ∧ ∀ base : Heap, K.In base → base.Ns mainGlobals mg → BModB base mg → FnOk l.prog w K mg base CX0 6 fa fd ["script"] (spLawT K [41, 48, 69]) := by
  have e := hfa.symm.trans (PySem.W.mg_of X G a21)
  cases e
  have T : Glb mg := Glb.mk_ X G z_range z_len z_max z_min z_int z_bool z_str z_list z_tuple z_dict z_set z_sum z_sorted z_enumerate z_isinstance z_reversed z_repr z_all z_zip
  have m_abs : mg "abs" = none := PySem.W.mg_none_of X G z_abs
  have m_ValueError : mg "ValueError" = none := PySem.W.mg_none_of X G z_ValueError
  have F1 := fun_mk (st := sIsRow) l1 c1 k1
  have b1 := F1.binds (ps := ["thing"]) fun _ _ _ _ _ _ us hl => match us, hl with | [_], _ => rfl
  have F2 := fun_mk (st := sIsLetters) l2 c2 k2
  have b2 := F2.binds (ps := ["thing"]) fun _ _ _ _ _ _ us hl => match us, hl with | [_], _ => rfl
  have F3 := fun_mk (st := sHasAll) l3 c3 k3
  have b3 := F3.binds (ps := ["found", "letters"]) fun _ _ _ _ _ _ us hl => match us, hl with | [_, _], _ => rfl
  have F4 := fun_mk (st := sIsPlace) l4 c4 k4
  have b4 := F4.binds (ps := ["thing", "many"]) fun _ _ _ _ _ _ us hl => match us, hl with | [_, _], _ => rfl
  have F5 := fun_mk (st := sShows) l5 c5 k5
  have b5 := F5.binds (ps := ["row", "letters", "thing"]) fun _ _ _ _ _ _ us hl => match us, hl with | [_, _, _], _ => rfl
  have F6 := fun_mk (st := sLawDraws) l6 c6 k6
  have b6 := F6.binds (ps := ["script"]) fun _ _ _ _ _ _ us hl => match us, hl with | [_], _ => rfl
  have F7 := fun_mk (st := sLawTake) l7 c7 k7
  have b7 := F7.binds (ps := ["draws", "many"]) fun _ _ _ _ _ _ us hl => match us, hl with | [_, _], _ => rfl
  have F8 := fun_mk (st := sLawAbc) l8 c8 k8
  have b8 := F8.binds (ps := ["k"]) fun _ _ _ _ _ _ us hl => match us, hl with | [_], _ => rfl
  have F9 := fun_mk (st := sLawSigns) l9 c9 k9
  have b9 := F9.binds (ps := ["draws"]) fun _ _ _ _ _ _ us hl => match us, hl with | [_], _ => rfl
  have F10 := fun_mk (st := sLawRow) l10 c10 k10
  have b10 := F10.binds (ps := ["draws", "signs", "most"]) fun _ _ _ _ _ _ us hl => match us, hl with | [_, _, _], _ => rfl
  have F11 := fun_mk (st := sLawSomeLetters) l11 c11 k11
  have b11 := F11.binds (ps := ["draws", "signs"]) fun _ _ _ _ _ _ us hl => match us, hl with | [_, _], _ => rfl
  have F12 := fun_mk (st := sLawArches) l12 c12 k12
  have b12 := F12.binds (ps := ["row", "letters"]) fun _ _ _ _ _ _ us hl => match us, hl with | [_, _], _ => rfl
  have F13 := fun_mk (st := sLawShown) l13 c13 k13
  have b13 := F13.binds (ps := ["row", "letters", "thing"]) fun _ _ _ _ _ _ us hl => match us, hl with | [_, _, _], _ => rfl
  have F14 := fun_mk (st := sLawWhole) l14 c14 k14
  have b14 := F14.binds (ps := ["thing"]) fun _ _ _ _ _ _ us hl => match us, hl with | [_], _ => rfl
  have F15 := fun_mk (st := sLawOdd) l15 c15 k15
  have b15 := F15.binds (ps := ["draws", "size"]) fun _ _ _ _ _ _ us hl => match us, hl with | [_, _], _ => rfl
  have F16 := fun_mk (st := sLawSpoilt) l16 c16 k16
  have b16 := F16.binds (ps := ["draws", "some", "size"]) fun _ _ _ _ _ _ us hl => match us, hl with | [_, _, _], _ => rfl
  have F17 := fun_mk (st := sLawLoose) l17 c17 k17
  have b17 := F17.binds (ps := ["draws", "row", "letters"]) fun _ _ _ _ _ _ us hl => match us, hl with | [_, _, _], _ => rfl
  have F18 := fun_mk (st := sLawDeep) l18 c18 k18
  have b18 := F18.binds (ps := ["many"]) fun _ _ _ _ _ _ us hl => match us, hl with | [_], _ => rfl
  have F19 := fun_mk (st := sLawRight) l19 c19 k19
  have b19 := F19.binds (ps := ["row", "letters", "thing"]) fun _ _ _ _ _ _ us hl => match us, hl with | [_, _, _], _ => rfl
  have F20 := fun_mk (st := sLawThings) l20 c20 k20
  have b20 := F20.binds (ps := ["draws", "row", "letters"]) fun _ _ _ _ _ _ us hl => match us, hl with | [_, _, _], _ => rfl
  have F21 := fun_mk (st := sLaw) l21 c21 k21
  have b21 := F21.binds (ps := ["script"]) fun _ _ _ _ _ _ us hl => match us, hl with | [_], _ => rfl
  refine ⟨PySem.W.fnOf "law" "law" (defArgs sLaw) (defBody sLaw) (defScope sLaw) .none kV21 dc21 pm21 an21 cd21 ct21, fun s v => .of_eq rfl, fun base kB _ B => ?_⟩
  have c_is_row : Callee l.prog w K mg base 1 "is_row" ["thing"] (spIsRow2 K 41) := ⟨f1, _, ok_isrow T B ck1 ce1 F1, PySem.W.mg_of X G a1, k1, b1⟩
  have c_is_letters : Callee l.prog w K mg base 2 "is_letters" ["thing"] (spIsLetters K 41 48) := ⟨f2, _, ok_isletters T B ck2 ce2 c_is_row F2, PySem.W.mg_of X G a2, k2, b2⟩
  have c_has_all : Callee l.prog w K mg base 1 "has_all" ["found", "letters"] (spHasAll 69) := ⟨f3, _, ok_hasall T B ck3 ce3 F3, PySem.W.mg_of X G a3, k3, b3⟩
  have c_is_place : Callee l.prog w K mg base 1 "is_place" ["thing", "many"] (spPlcA K) := ⟨f4, _, ok_plcA T F4, PySem.W.mg_of X G a4, k4, b4⟩
  have c_shows : Callee l.prog w K mg base 3 "shows" ["row", "letters", "thing"] (spShowsV K 41 48 69) := ⟨f5, _, ok_showsV T c_is_letters c_has_all c_is_place F5, PySem.W.mg_of X G a5, k5, b5⟩
  have c_law_draws : Callee l.prog w K mg base 1 "_law_draws" ["script"] (spDraws K) := ⟨f6, _, ok_draws T m_abs F6, PySem.W.mg_of X G a6, k6, b6⟩
  have c_law_take : Callee l.prog w K mg base 1 "_law_take" ["draws", "many"] spTake := ⟨f7, _, ok_take T F7, PySem.W.mg_of X G a7, k7, b7⟩
  have c_law_abc : Callee l.prog w K mg base 1 "_law_abc" ["k"] spAbc := ⟨f8, _, ok_abc T F8, PySem.W.mg_of X G a8, k8, b8⟩
  have c_law_signs : Callee l.prog w K mg base 2 "_law_signs" ["draws"] spSigns := ⟨f9, _, ok_signs T c_law_take c_law_abc F9, PySem.W.mg_of X G a9, k9, b9⟩
  have c_law_row : Callee l.prog w K mg base 2 "_law_row" ["draws", "signs", "most"] spRowC := ⟨f10, _, ok_rowC T c_law_take F10, PySem.W.mg_of X G a10, k10, b10⟩
  have c_law_some_letters : Callee l.prog w K mg base 2 "_law_some_letters" ["draws", "signs"] spSomeL := ⟨f11, _, ok_someL T c_law_take c_law_abc F11, PySem.W.mg_of X G a11, k11, b11⟩
  have c_law_arches : Callee l.prog w K mg base 1 "_law_arches" ["row", "letters"] spArchesL := ⟨f12, _, ok_larches T F12, PySem.W.mg_of X G a12, k12, b12⟩
  have c_law_shown : Callee l.prog w K mg base 1 "_law_shown" ["row", "letters", "thing"] (spShownV K) := ⟨f13, _, ok_shownV T F13, PySem.W.mg_of X G a13, k13, b13⟩
  have c_law_whole : Callee l.prog w K mg base 1 "_law_whole" ["thing"] spWhole1 := ⟨f14, _, ok_whole1 T F14, PySem.W.mg_of X G a14, k14, b14⟩
  have c_law_odd : Callee l.prog w K mg base 2 "_law_odd" ["draws", "size"] spOdd := ⟨f15, _, ok_odd T c_law_take F15, PySem.W.mg_of X G a15, k15, b15⟩
  have c_law_spoilt : Callee l.prog w K mg base 3 "_law_spoilt" ["draws", "some", "size"] spSpoilt39 := ⟨f16, _, ok_spoilt T c_law_take c_law_odd F16, PySem.W.mg_of X G a16, k16, b16⟩
  have c_law_loose : Callee l.prog w K mg base 2 "_law_loose" ["draws", "row", "letters"] spLoose39 := ⟨f17, _, ok_loose T c_law_take F17, PySem.W.mg_of X G a17, k17, b17⟩
  have c_law_deep : Callee l.prog w K mg base 1 "_law_deep" ["many"] spDeepL := ⟨f18, _, ok_deepL T F18, PySem.W.mg_of X G a18, k18, b18⟩
  have c_law_right : Callee l.prog w K mg base 4 "_law_right" ["row", "letters", "thing"] (spRightT 41 48 69) := ⟨f19, _, ok_rightT T c_shows c_law_shown c_law_whole F19, PySem.W.mg_of X G a19, k19, b19⟩
  have c_law_things : Callee l.prog w K mg base 4 "_law_things" ["draws", "row", "letters"] spThings := ⟨f20, _, ok_things T c_law_arches c_law_loose c_law_spoilt F20, PySem.W.mg_of X G a20, k20, b20⟩
  exact ok_law T m_ValueError c_law_take c_law_draws c_law_signs c_law_row c_law_some_letters c_law_arches c_shows c_law_deep c_law_things c_law_right F21
theorem walk {l : PySem.W.OpenLaw} {q : Program} {loose : List Str} {XP : (Str → Option Value) → Heap → Prop} {YP : World → Heap → Prop} {d : DefRec} {K : Params → PySem.W.Frag} (hn : l.most = some 63) (hdf : d.params.defaults = [])
    (hY : ∀ (w : World) (h : Heap), YP w h → (K w.params).In h) (hmk : ∀ w : World, Makers q (K w.params) [("is_row", 41), ("is_letters", 48), ("has_all", 69)])
    (F : ∀ (w : World) (mg : Str → Option Value) (fa : Addr) (h : Heap), (K w.params).In h → h.Ns mainGlobals mg → mg d.name = some (.ref fa) →
      ∃ fd : FuncData, (∀ (s : Shared) (u : Value), BindsTo s fd ⟨[u], []⟩ [("script", u)]) ∧ ∀ base : Heap, (K w.params).In base → base.Ns mainGlobals mg → BModB base mg → FnOk l.prog w (K w.params) mg base CX0 6 fa fd ["script"] (spLawT (K w.params) [41, 48, 69])) :
    PySem.W.WalkO q loose XP YP l.row.toRowW d [] (fun f vs => PySem.call f vs) :=
  L2.walk_ofT [("is_row", 41), ("is_letters", 48), ("has_all", 69)] (n := 63) (k := 6) (x := "script") (CX := fun _ => CX0) (sp := fun w => spLawT (K w.params) [41, 48, 69]) hn (by decide) hdf ⟨rfl, by decide, by decide, rfl⟩ hY hmk F (fun _ _ a ns hl hO hT hS => ⟨a, ns, rfl, hS, hl, hO, hT, fun _ h => ⟨rfl, h⟩⟩) fun _ _ _ _ _ z => z
end Lv
open PySem PySem.W PyProof.Rows
set_option maxRecDepth 100000 in
set_option maxHeartbeats 0 in
theorem PySem.Challenge.cw_leavings_k39_papers_of_arches_judged_holds : PySem.Challenge.rw_leavings_k39_papers_of_arches_judged.Holds := by
  w_on; o_law; k_head; (case hw => w_witness2)
  k_fill
  refine Lv.walk (l := PySem.Challenge.rw_leavings_k39_papers_of_arches_judged) rfl rfl (fun w h Y => PySem.W.kIn_of Y) ?mkx ?F
  case mkx =>
    intro w
    refine' L2.mk_makers ?mh1 ?mh2 ?mh3 ?mh4 ?mh5 ?mh6 ?mh7
    (case mh1 => rfl); (case mh2 => k_is); (case mh3 => k_is); (case mh4 => rfl); (case mh5 => (refine' L2.mk_codeK ?cq0 ?cq1 ?cq2 ?cq3 ?cq4 ?cq5 ?cq6 ?cq7 ?cq8; (case cq0 => k_is); (case cq1 => rfl); (case cq2 => rfl); (case cq3 => rfl); (case cq4 => rfl); (case cq5 => rfl); (case cq6 => rfl); (case cq7 => rfl); (case cq8 => decide))); (case mh6 => rfl)
    case mh7 =>
    refine' L2.mk_makers ?mh1 ?mh2 ?mh3 ?mh4 ?mh5 ?mh6 ?mh7
    (case mh1 => rfl); (case mh2 => k_is); (case mh3 => k_is); (case mh4 => rfl); (case mh5 => (refine' L2.mk_codeK ?cq0 ?cq1 ?cq2 ?cq3 ?cq4 ?cq5 ?cq6 ?cq7 ?cq8; (case cq0 => k_is); (case cq1 => rfl); (case cq2 => rfl); (case cq3 => rfl); (case cq4 => rfl); (case cq5 => rfl); (case cq6 => rfl); (case cq7 => rfl); (case cq8 => decide))); (case mh6 => rfl)
    case mh7 =>
    refine' L2.mk_makers ?mh1 ?mh2 ?mh3 ?mh4 ?mh5 ?mh6 ?mh7
    (case mh1 => rfl); (case mh2 => k_is); (case mh3 => k_is); (case mh4 => rfl); (case mh5 => (refine' L2.mk_codeK ?cq0 ?cq1 ?cq2 ?cq3 ?cq4 ?cq5 ?cq6 ?cq7 ?cq8; (case cq0 => k_is); (case cq1 => rfl); (case cq2 => rfl); (case cq3 => rfl); (case cq4 => rfl); (case cq5 => rfl); (case cq6 => rfl); (case cq7 => rfl); (case cq8 => decide))); (case mh6 => rfl)
    case mh7 =>
    exact trivial
  case F =>
    intro w mg fa h KX G hmg
    refine' Lv.all_mk KX G hmg ?a1 ?l1 ?c1 ?k1 ?ce1 ?ck1 ?a2 ?l2 ?c2 ?k2 ?ce2 ?ck2 ?a3 ?l3 ?c3 ?k3 ?ce3 ?ck3 ?a4 ?l4 ?c4 ?k4 ?a5 ?l5 ?c5 ?k5 ?a6 ?l6 ?c6 ?k6 ?a7 ?l7 ?c7 ?k7 ?a8 ?l8 ?c8 ?k8 ?a9 ?l9 ?c9 ?k9 ?a10 ?l10 ?c10 ?k10 ?a11 ?l11 ?c11 ?k11 ?a12 ?l12 ?c12 ?k12 ?a13 ?l13 ?c13 ?k13 ?a14 ?l14 ?c14 ?k14 ?a15 ?l15 ?c15 ?k15 ?a16 ?l16 ?c16 ?k16 ?a17 ?l17 ?c17 ?k17 ?a18 ?l18 ?c18 ?k18 ?a19 ?l19 ?c19 ?k19 ?a20 ?l20 ?c20 ?k20 ?a21 ?l21 ?c21 ?k21 ?z_range ?z_len ?z_max ?z_min ?z_int ?z_bool ?z_str ?z_list ?z_tuple ?z_dict ?z_set ?z_sum ?z_sorted ?z_enumerate ?z_isinstance ?z_reversed ?z_repr ?z_all ?z_zip ?z_abs ?z_ValueError
    (case a1 => k_is); (case l1 => k_is); (case c1 => k_is); (case k1 => k_is); (case ce1 => rfl); (case ck1 => (refine' L2.mk_codeK ?cq0 ?cq1 ?cq2 ?cq3 ?cq4 ?cq5 ?cq6 ?cq7 ?cq8; (case cq0 => k_is); (case cq1 => rfl); (case cq2 => rfl); (case cq3 => rfl); (case cq4 => rfl); (case cq5 => rfl); (case cq6 => rfl); (case cq7 => rfl); (case cq8 => decide)))
    (case a2 => k_is); (case l2 => k_is); (case c2 => k_is); (case k2 => k_is); (case ce2 => rfl); (case ck2 => (refine' L2.mk_codeK ?cq0 ?cq1 ?cq2 ?cq3 ?cq4 ?cq5 ?cq6 ?cq7 ?cq8; (case cq0 => k_is); (case cq1 => rfl); (case cq2 => rfl); (case cq3 => rfl); (case cq4 => rfl); (case cq5 => rfl); (case cq6 => rfl); (case cq7 => rfl); (case cq8 => decide)))
    (case a3 => k_is); (case l3 => k_is); (case c3 => k_is); (case k3 => k_is); (case ce3 => rfl); (case ck3 => (refine' L2.mk_codeK ?cq0 ?cq1 ?cq2 ?cq3 ?cq4 ?cq5 ?cq6 ?cq7 ?cq8; (case cq0 => k_is); (case cq1 => rfl); (case cq2 => rfl); (case cq3 => rfl); (case cq4 => rfl); (case cq5 => rfl); (case cq6 => rfl); (case cq7 => rfl); (case cq8 => decide)))
    (case a4 => k_is); (case l4 => k_is); (case c4 => k_is); (case k4 => k_is); (case a5 => k_is); (case l5 => k_is)
    (case c5 => k_is); (case k5 => k_is); (case a6 => k_is); (case l6 => k_is); (case c6 => k_is); (case k6 => k_is)
    (case a7 => k_is); (case l7 => k_is); (case c7 => k_is); (case k7 => k_is); (case a8 => k_is); (case l8 => k_is)
    (case c8 => k_is); (case k8 => k_is); (case a9 => k_is); (case l9 => k_is); (case c9 => k_is); (case k9 => k_is)
    (case a10 => k_is); (case l10 => k_is); (case c10 => k_is); (case k10 => k_is); (case a11 => k_is); (case l11 => k_is)
    (case c11 => k_is); (case k11 => k_is); (case a12 => k_is); (case l12 => k_is); (case c12 => k_is); (case k12 => k_is)
    (case a13 => k_is); (case l13 => k_is); (case c13 => k_is); (case k13 => k_is); (case a14 => k_is); (case l14 => k_is)
    (case c14 => k_is); (case k14 => k_is); (case a15 => k_is); (case l15 => k_is); (case c15 => k_is); (case k15 => k_is)
    (case a16 => k_is); (case l16 => k_is); (case c16 => k_is); (case k16 => k_is); (case a17 => k_is); (case l17 => k_is)
    (case c17 => k_is); (case k17 => k_is); (case a18 => k_is); (case l18 => k_is); (case c18 => k_is); (case k18 => k_is)
    (case a19 => k_is); (case l19 => k_is); (case c19 => k_is); (case k19 => k_is); (case a20 => k_is); (case l20 => k_is)
    (case c20 => k_is); (case k20 => k_is); (case a21 => k_is); (case l21 => k_is); (case c21 => k_is); (case k21 => k_is)
    (case z_range => k_is); (case z_len => k_is); (case z_max => k_is); (case z_min => k_is); (case z_int => k_is); (case z_bool => k_is)
    (case z_str => k_is); (case z_list => k_is); (case z_tuple => k_is); (case z_dict => k_is); (case z_set => k_is); (case z_sum => k_is)
    (case z_sorted => k_is); (case z_enumerate => k_is); (case z_isinstance => k_is); (case z_reversed => k_is); (case z_repr => k_is); (case z_all => k_is)
    (case z_zip => k_is); (case z_abs => k_is); (case z_ValueError => k_is)
#print axioms PySem.Challenge.cw_leavings_k39_papers_of_arches_judged_holds
